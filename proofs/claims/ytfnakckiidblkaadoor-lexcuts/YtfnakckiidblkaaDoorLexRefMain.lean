/- The document's Lex. -/
import Derived.Test.YtfnakckiidblkaaDoorLexRefOneC
namespace Go.Proofs.YtfnakckiidblkaaDoor
open Go.RowKit Go.Maps Go.Lib
set_option linter.unusedVariables false
set_option linter.unusedSimpArgs false

theorem step_bl {l : X.By} {x : Nat} (hx : X.first l = x) (h : x = 32 ∨ x = 9 ∨ x = 10) : X.step l = some (0, 1, 0) := by
  unfold X.step
  simp only [hx]
  rw [if_pos h]
theorem step_nt {l : X.By} (hx : X.first l = 47) (hy : X.first (l.drop 1) = 47) : X.step l = some (0, X.note l, 0) := by
  unfold X.step
  simp only [hx, hy]
  simp

set_option maxRecDepth 100000 in
set_option maxHeartbeats 8000000 in
theorem rlex_any (s : ByteArray) (hs : s.size ≤ maxLen) (w : World) :
    Calls Tryd.prog 10 #[.string s] w (LexOut w (X.lex s.data.toList)) := by
  have hL : s.data.toList.length = s.size := by simp
  by_cases hbig : 20000 < s.size
  · have hr : X.lex s.data.toList = ([], 8) := by unfold X.lex; rw [if_pos (by omega)]
    rw [hr]
    go_enter Tryd.func10, Tryd.ntmps10
    go_wp2
    go_ret2
    exact LexOut.none w w rfl (Below.refl _ _)
  have hsm : s.size ≤ 20000 := by omega
  clear hbig hs
  obtain ⟨i2, hi2, hz20, hz21, hz22⟩ := info_parts infoT
  have hdec : decide ((20000 : Int) < s.size) = false := by simp; omega
  go_enter Tryd.func10, Tryd.ntmps10
  go_wp2_with fail
  go_loopg [4, 5] s.size (fun r lv iv wq => ∃ (i n : Nat) (ts : List X.Tok), iv = .int .i64 i ∧ i ≤ s.size ∧ s.size - i ≤ r ∧ n ≤ i ∧ Hid (ts.length = n) ∧ Hid (X.lexF s.data.toList.length 0 s.data.toList = (X.lexF (s.data.toList.drop i).length i (s.data.toList.drop i)).map (ts ++ ·)) ∧ Hid (wq.ownsRow w.heap.size 30 4 lv n (ts.flatMap tokC)) ∧ Hid (Below w.heap.size w wq))
  case atStart => exact ⟨0, 0, [], rfl, Nat.zero_le _, by omega, Nat.le_refl _, rfl, (by simp : X.lexF s.data.toList.length 0 s.data.toList = (X.lexF (s.data.toList.drop 0).length 0 (s.data.toList.drop 0)).map ([] ++ ·)), World.ownsRow_nil _ _ _ _, Below.refl _ _⟩
  case round =>
    obtain ⟨i, n, ts, rfl, hi, hr, hni, HN, HF, HO, HB⟩ := hrel
    have HBs : Hid (w.heap.size ≤ wr.heap.size) := HB.out.size
    by_cases hlt : i < s.size
    · have hlen : (s.data.toList.drop i).length = s.size - i := by simp
      have hne : s.data.toList.drop i ≠ [] := fun e => by rw [e] at hlen; simp at hlen; omega
      have hfd := first_drop s i hlt
      have hin : 0 ≤ (i : Int) := by omega
      have hii : (i : Int) < s.size := by omega
      obtain ⟨x, hx⟩ : ∃ x : Nat, s[i].toNat = x := ⟨_, rfl⟩
      rw [hx] at hfd
      by_cases hbl : x = 32 ∨ x = 9 ∨ x = 10
      · have HNX : Hid _ := lex_next HF.out hne (step_bl hfd hbl)
        have hcase : ((x : Int) == 32) = true ∨ (((x : Int) == 32) = false ∧ ((x : Int) == 9) = true) ∨ (((x : Int) == 32) = false ∧ ((x : Int) == 9) = false ∧ ((x : Int) == 10) = true) := by
          rcases hbl with rfl | rfl | rfl <;> simp
        clear hbl hne
        rcases hcase with d1 | ⟨d1, d2⟩ | ⟨d1, d2, d3⟩
        all_goals
          go_wp2_with fail
          go_roundg (s.size - (i + 1))
          case measure => omega
          case rel => exact ⟨i + 1, n, ts, by go_num, by omega, Nat.le_refl _, by omega, HN.out, (by have := HNX.out; simpa using this : _ = _), HO.out, HB.out⟩
      have d1 : ((x : Int) == 32) = false := by simp; omega
      have d2 : ((x : Int) == 9) = false := by simp; omega
      have d3 : ((x : Int) == 10) = false := by simp; omega
      by_cases hnt : x = 47 ∧ X.first ((s.data.toList.drop i).drop 1) = 47
      · obtain ⟨hx47, hy47⟩ := hnt
        subst hx47
        have HNX : Hid _ := lex_next HF.out hne (step_nt hfd hy47)
        have hnote1 := (X.step_size hne (step_nt hfd hy47)).1
        have hi1 : i + 1 < s.size := by
          rcases Nat.lt_or_ge (i + 1) s.size with h | h
          · exact h
          · rw [List.drop_drop, List.drop_eq_nil_of_le (by rw [hL]; omega)] at hy47
            simp [X.first] at hy47
        have hs1 : s[i + 1].toNat = 47 := by
          have h5 := first_drop s (i + 1) hi1
          rw [List.drop_drop] at hy47
          rw [← h5]
          exact hy47
        have hin1 : 0 ≤ (i : Int) + 1 := by omega
        have hii1 : (i : Int) + 1 < s.size := by omega
        have hin2 : ((i : Int) + 1).toNat = i + 1 := by omega
        clear hne
        generalize wr = wo at *
        go_wp2_with fail
        go_loopg [5] (s.size - i) (fun r ev wq => ∃ (q : Nat), ev = .int .i64 ((i : Int) + q) ∧ i + q ≤ s.size ∧ s.size - i - q ≤ r ∧ Hid (∀ (j : Nat) (c : UInt8), j < q → (s.data.toList.drop i)[j]? = some c → decide (c.toNat ≠ 10) = true) ∧ Hid (wq = wo))
        case atStart => exact ⟨0, by simp, by omega, by omega, (fun j c hj => by omega : ∀ (j : Nat) (c : UInt8), j < 0 → (s.data.toList.drop i)[j]? = some c → decide (c.toNat ≠ 10) = true), rfl⟩
        case round =>
          obtain ⟨q, rfl, hq, hr2, HA, HWE⟩ := hrel
          obtain rfl : wr = wo := HWE.out
          by_cases hlt2 : i + q < s.size
          · have HG : Hid ((s.data.toList.drop i)[q]? = some s[i + q]) := get_drop s i q hlt2
            have hq1 : 0 ≤ (i : Int) + q := by omega
            have hq2 : (i : Int) + q < s.size := by omega
            have hq3 : ((i : Int) + q).toNat = i + q := by omega
            obtain ⟨d, hd⟩ : ∃ d : Nat, s[i + q].toNat = d := ⟨_, rfl⟩
            by_cases h10 : d = 10
            · have HSP : Hid (X.note (s.data.toList.drop i) = q) := span_at HA.out (.inr ⟨_, HG.out, by rw [hd]; simp [h10]⟩)
              have e10 : ((d : Int) != 10) = false := by simp; omega
              rw [HSP.out] at HNX hnote1
              go_wp2_with fail
              go_roundg (s.size - (i + q))
              case measure => omega
              case rel => exact ⟨i + q, n, ts, by first | go_num | (congr 1; omega), by omega, Nat.le_refl _, by omega, HN.out, (by have := HNX.out; simpa using this : _ = _), HO.out, HB.out⟩
            · have e10 : ((d : Int) != 10) = true := by simp; omega
              go_wp2_with fail
              go_roundg (s.size - i - (q + 1))
              case measure => omega
              case rel =>
                refine ⟨q + 1, by first | go_num | (congr 1; omega), by omega, Nat.le_refl _, fun j c hj hg => ?_, rfl⟩
                by_cases e : j = q
                · subst e; rw [HG.out] at hg; cases hg; rw [hd]; simpa using h10
                · exact HA.out j c (by omega) hg
          · have HSP : Hid (X.note (s.data.toList.drop i) = q) := span_at HA.out (.inl (by rw [List.length_drop, hL]; omega))
            have hq2 : ¬ (i : Int) + q < s.size := by omega
            rw [HSP.out] at HNX hnote1
            go_wp2_with fail
            go_roundg (s.size - (i + q))
            case measure => omega
            case rel => exact ⟨i + q, n, ts, by first | go_num | (congr 1; omega), by omega, Nat.le_refl _, by omega, HN.out, (by have := HNX.out; simpa using this : _ = _), HO.out, HB.out⟩
      have hone := one_any s hsm i hlt (by rw [hfd]; exact hbl) (by rw [hfd]; exact hnt)
      have hnt2 : ((x : Int) == 47) = false ∨ (((x : Int) == 47) = true ∧ (decide ((i : Int) + 1 < s.size) = false ∨ (i + 1 < s.size ∧ ∃ y : Nat, (∀ h : i + 1 < s.size, s[i + 1].toNat = y) ∧ ((y : Int) == 47) = false))) := by
        by_cases h47 : x = 47
        · right
          refine ⟨by simp; omega, ?_⟩
          by_cases h1 : i + 1 < s.size
          · right
            refine ⟨h1, s[i + 1].toNat, fun _ => rfl, ?_⟩
            have h5 := first_drop s (i + 1) h1
            have h6 : ¬ X.first ((s.data.toList.drop i).drop 1) = 47 := fun e => hnt ⟨h47, e⟩
            rw [List.drop_drop, h5] at h6
            simp
            omega
          · left
            simp
            omega
        · left
          simp
          omega
      have HNE : Hid _ := hne
      clear hnt hbl hne
      have hin1 : 0 ≤ (i : Int) + 1 := by omega
      have hin2 : ((i : Int) + 1).toNat = i + 1 := by omega
      rcases hnt2 with d4 | ⟨d4, d5 | ⟨d5, y, d6, d7⟩⟩
      · go_wp2_with fail
        refine (hone _).mono ?_
        rintro e w1 ⟨a0, a1, a2, a3, b, rfl, HB1, hcase⟩
        rcases hcase with ⟨rfl, hst⟩ | ⟨rfl, k, m, v, hst, hk, rfl, rfl, rfl, rfl⟩
        · have HR : Hid (X.lex s.data.toList = ([], 2)) := lex_none (by omega) HF.out HNE.out hst
          go_wp2
          go_ret2
          exact LexOut.none w _ HR.out (HB.out.trans ((HB1.alloc HB1.size _).mono HBs.out))
        have HNX : Hid _ := lex_next HF.out HNE.out hst
        obtain ⟨hm1, hm2⟩ := X.step_size HNE.out hst
        rw [hlen] at hm2
        have htl : (X.str ((s.data.toList.drop i).take m)).size = m := by rw [str_size, List.length_take]; omega
        clear hst
        obtain ⟨tx, htx⟩ : ∃ tx, X.str ((s.data.toList.drop i).take m) = tx := ⟨_, rfl⟩
        rw [htx] at htl ⊢
        have HTY : Hid _ := htx
        clear htx
        obtain ⟨Z, hZ⟩ : ∃ Z, (w1.alloc (.cells #[.int .i64 k, .string tx, .int .i64 v, .int .i64 i] 30)).alloc (.cells #[.int .i64 k, .string tx, .int .i64 v, .int .i64 i] 30) = Z := ⟨_, rfl⟩
        have BZ : Hid (Below wr.heap.size wr Z) := by
          show Below _ _ _
          rw [← hZ]
          exact (HB1.alloc HB1.size _).alloc (by simp; have := HB1.size; omega) _
        have OZ : Hid (Z.ownsRow w.heap.size 30 4 u4 n (ts.flatMap tokC)) := row_thru HO.out BZ.out
        have HNC : Hid (∀ j u, ([.int .i64 k, .string tx, .int .i64 v, .int .i64 i] : List Value)[j]? = some u → Z.cell? ((⟨w1.heap.size + 1, 0, none⟩ : Addr).add j) = some u) := by
          intro j u hu
          rw [← hZ, Addr.add_lit, Nat.zero_add]
          have := row_cell (w := w1.alloc (.cells #[.int .i64 k, .string tx, .int .i64 v, .int .i64 i] 30)) (a := #[.int .i64 k, .string tx, .int .i64 v, .int .i64 i]) (t := 30) (k := j) (u := u) (by simpa using hu)
          simpa using this
        have HWZ : Hid (w.heap.size ≤ Z.heap.size) := by show _ ≤ _; have := BZ.out.size; have := HBs.out; omega
        have HZC : Hid (Z.cell? ⟨w1.heap.size, 1, none⟩ = some (.string tx)) := by
          show _ = _
          rw [← hZ]
          exact cell_thru (bl1 _ _) (row_cell (w := w1) (a := #[.int .i64 k, .string tx, .int .i64 v, .int .i64 i]) rfl)
        have HNQ : Hid (¬ some w1.heap.size = u4.ownBlock) := fun e => by have := (HO.out.lt _ e.symm).2; have := HB1.size; omega
        clear HB1
        go_wp2_with (first | (at_builtin; (try rw [hZ]); refine wpList_append_lies _ rfl _ _ 22 rfl w.heap.size 30 i2 _ 4 40 Tryd.underlying22 hi2 hz20 hz21 hz22 rfl (by decide) u4 n (ts.flatMap tokC) rfl OZ.out ⟨w1.heap.size + 1, 0, none⟩ 1 1 [.int .i64 k, .string tx, .int .i64 v, .int .i64 i] rfl rfl HNC.out (by intro u hu; simp at hu; rcases hu with rfl | rfl | rfl | rfl <;> rfl) (by decide) (by unfold maxLen; omega) (by omega) HWZ.out Z.heap.size rfl ?_; intro ga ca w2 ho1 hg1 hat1 hlt1; have hc1 := hg1.cell HZC.out HNQ.out; have HO1 : Hid (w2.ownsRow w.heap.size 30 4 (.slice (some ⟨ga, 0, none⟩) (n + 1) ca) (n + 1) (ts.flatMap tokC ++ [.int .i64 k, .string tx, .int .i64 v, .int .i64 i])) := ho1; have HG1 : Hid _ := hg1; clear ho1 hg1 hat1) | fail)
        go_roundg (s.size - (i + m))
        case measure => omega
        case rel =>
          refine ⟨i + m, n + 1, ts ++ [⟨k, (s.data.toList.drop i).take m, v, i⟩], by go_num, by omega, Nat.le_refl _, by omega, ?_, ?_, ?_, below_grown (HB.out.trans (BZ.out.mono HBs.out)) OZ.out HG1.out HWZ.out⟩
          · show _ = _
            rw [List.length_append, HN.out]; rfl
          · have := HNX.out
            rw [if_neg hk] at this
            exact this
          · show World.ownsRow _ _ _ _ _ _ _
            rw [List.flatMap_append]
            simp only [List.flatMap_cons, List.flatMap_nil, List.append_nil, tokC, HTY.out]
            exact HO1.out
      · go_wp2_with fail
        refine (hone _).mono ?_
        rintro e w1 ⟨a0, a1, a2, a3, b, rfl, HB1, hcase⟩
        rcases hcase with ⟨rfl, hst⟩ | ⟨rfl, k, m, v, hst, hk, rfl, rfl, rfl, rfl⟩
        · have HR : Hid (X.lex s.data.toList = ([], 2)) := lex_none (by omega) HF.out HNE.out hst
          go_wp2
          go_ret2
          exact LexOut.none w _ HR.out (HB.out.trans ((HB1.alloc HB1.size _).mono HBs.out))
        have HNX : Hid _ := lex_next HF.out HNE.out hst
        obtain ⟨hm1, hm2⟩ := X.step_size HNE.out hst
        rw [hlen] at hm2
        have htl : (X.str ((s.data.toList.drop i).take m)).size = m := by rw [str_size, List.length_take]; omega
        clear hst
        obtain ⟨tx, htx⟩ : ∃ tx, X.str ((s.data.toList.drop i).take m) = tx := ⟨_, rfl⟩
        rw [htx] at htl ⊢
        have HTY : Hid _ := htx
        clear htx
        obtain ⟨Z, hZ⟩ : ∃ Z, (w1.alloc (.cells #[.int .i64 k, .string tx, .int .i64 v, .int .i64 i] 30)).alloc (.cells #[.int .i64 k, .string tx, .int .i64 v, .int .i64 i] 30) = Z := ⟨_, rfl⟩
        have BZ : Hid (Below wr.heap.size wr Z) := by
          show Below _ _ _
          rw [← hZ]
          exact (HB1.alloc HB1.size _).alloc (by simp; have := HB1.size; omega) _
        have OZ : Hid (Z.ownsRow w.heap.size 30 4 u4 n (ts.flatMap tokC)) := row_thru HO.out BZ.out
        have HNC : Hid (∀ j u, ([.int .i64 k, .string tx, .int .i64 v, .int .i64 i] : List Value)[j]? = some u → Z.cell? ((⟨w1.heap.size + 1, 0, none⟩ : Addr).add j) = some u) := by
          intro j u hu
          rw [← hZ, Addr.add_lit, Nat.zero_add]
          have := row_cell (w := w1.alloc (.cells #[.int .i64 k, .string tx, .int .i64 v, .int .i64 i] 30)) (a := #[.int .i64 k, .string tx, .int .i64 v, .int .i64 i]) (t := 30) (k := j) (u := u) (by simpa using hu)
          simpa using this
        have HWZ : Hid (w.heap.size ≤ Z.heap.size) := by show _ ≤ _; have := BZ.out.size; have := HBs.out; omega
        have HZC : Hid (Z.cell? ⟨w1.heap.size, 1, none⟩ = some (.string tx)) := by
          show _ = _
          rw [← hZ]
          exact cell_thru (bl1 _ _) (row_cell (w := w1) (a := #[.int .i64 k, .string tx, .int .i64 v, .int .i64 i]) rfl)
        have HNQ : Hid (¬ some w1.heap.size = u4.ownBlock) := fun e => by have := (HO.out.lt _ e.symm).2; have := HB1.size; omega
        clear HB1
        go_wp2_with (first | (at_builtin; (try rw [hZ]); refine wpList_append_lies _ rfl _ _ 22 rfl w.heap.size 30 i2 _ 4 40 Tryd.underlying22 hi2 hz20 hz21 hz22 rfl (by decide) u4 n (ts.flatMap tokC) rfl OZ.out ⟨w1.heap.size + 1, 0, none⟩ 1 1 [.int .i64 k, .string tx, .int .i64 v, .int .i64 i] rfl rfl HNC.out (by intro u hu; simp at hu; rcases hu with rfl | rfl | rfl | rfl <;> rfl) (by decide) (by unfold maxLen; omega) (by omega) HWZ.out Z.heap.size rfl ?_; intro ga ca w2 ho1 hg1 hat1 hlt1; have hc1 := hg1.cell HZC.out HNQ.out; have HO1 : Hid (w2.ownsRow w.heap.size 30 4 (.slice (some ⟨ga, 0, none⟩) (n + 1) ca) (n + 1) (ts.flatMap tokC ++ [.int .i64 k, .string tx, .int .i64 v, .int .i64 i])) := ho1; have HG1 : Hid _ := hg1; clear ho1 hg1 hat1) | fail)
        go_roundg (s.size - (i + m))
        case measure => omega
        case rel =>
          refine ⟨i + m, n + 1, ts ++ [⟨k, (s.data.toList.drop i).take m, v, i⟩], by go_num, by omega, Nat.le_refl _, by omega, ?_, ?_, ?_, below_grown (HB.out.trans (BZ.out.mono HBs.out)) OZ.out HG1.out HWZ.out⟩
          · show _ = _
            rw [List.length_append, HN.out]; rfl
          · have := HNX.out
            rw [if_neg hk] at this
            exact this
          · show World.ownsRow _ _ _ _ _ _ _
            rw [List.flatMap_append]
            simp only [List.flatMap_cons, List.flatMap_nil, List.append_nil, tokC, HTY.out]
            exact HO1.out
      · have d6' := d6 d5
        have d5' : (i : Int) + 1 < s.size := by omega
        clear d6
        go_wp2_with fail
        refine (hone _).mono ?_
        rintro e w1 ⟨a0, a1, a2, a3, b, rfl, HB1, hcase⟩
        rcases hcase with ⟨rfl, hst⟩ | ⟨rfl, k, m, v, hst, hk, rfl, rfl, rfl, rfl⟩
        · have HR : Hid (X.lex s.data.toList = ([], 2)) := lex_none (by omega) HF.out HNE.out hst
          go_wp2
          go_ret2
          exact LexOut.none w _ HR.out (HB.out.trans ((HB1.alloc HB1.size _).mono HBs.out))
        have HNX : Hid _ := lex_next HF.out HNE.out hst
        obtain ⟨hm1, hm2⟩ := X.step_size HNE.out hst
        rw [hlen] at hm2
        have htl : (X.str ((s.data.toList.drop i).take m)).size = m := by rw [str_size, List.length_take]; omega
        clear hst
        obtain ⟨tx, htx⟩ : ∃ tx, X.str ((s.data.toList.drop i).take m) = tx := ⟨_, rfl⟩
        rw [htx] at htl ⊢
        have HTY : Hid _ := htx
        clear htx
        obtain ⟨Z, hZ⟩ : ∃ Z, (w1.alloc (.cells #[.int .i64 k, .string tx, .int .i64 v, .int .i64 i] 30)).alloc (.cells #[.int .i64 k, .string tx, .int .i64 v, .int .i64 i] 30) = Z := ⟨_, rfl⟩
        have BZ : Hid (Below wr.heap.size wr Z) := by
          show Below _ _ _
          rw [← hZ]
          exact (HB1.alloc HB1.size _).alloc (by simp; have := HB1.size; omega) _
        have OZ : Hid (Z.ownsRow w.heap.size 30 4 u4 n (ts.flatMap tokC)) := row_thru HO.out BZ.out
        have HNC : Hid (∀ j u, ([.int .i64 k, .string tx, .int .i64 v, .int .i64 i] : List Value)[j]? = some u → Z.cell? ((⟨w1.heap.size + 1, 0, none⟩ : Addr).add j) = some u) := by
          intro j u hu
          rw [← hZ, Addr.add_lit, Nat.zero_add]
          have := row_cell (w := w1.alloc (.cells #[.int .i64 k, .string tx, .int .i64 v, .int .i64 i] 30)) (a := #[.int .i64 k, .string tx, .int .i64 v, .int .i64 i]) (t := 30) (k := j) (u := u) (by simpa using hu)
          simpa using this
        have HWZ : Hid (w.heap.size ≤ Z.heap.size) := by show _ ≤ _; have := BZ.out.size; have := HBs.out; omega
        have HZC : Hid (Z.cell? ⟨w1.heap.size, 1, none⟩ = some (.string tx)) := by
          show _ = _
          rw [← hZ]
          exact cell_thru (bl1 _ _) (row_cell (w := w1) (a := #[.int .i64 k, .string tx, .int .i64 v, .int .i64 i]) rfl)
        have HNQ : Hid (¬ some w1.heap.size = u4.ownBlock) := fun e => by have := (HO.out.lt _ e.symm).2; have := HB1.size; omega
        clear HB1
        go_wp2_with (first | (at_builtin; (try rw [hZ]); refine wpList_append_lies _ rfl _ _ 22 rfl w.heap.size 30 i2 _ 4 40 Tryd.underlying22 hi2 hz20 hz21 hz22 rfl (by decide) u4 n (ts.flatMap tokC) rfl OZ.out ⟨w1.heap.size + 1, 0, none⟩ 1 1 [.int .i64 k, .string tx, .int .i64 v, .int .i64 i] rfl rfl HNC.out (by intro u hu; simp at hu; rcases hu with rfl | rfl | rfl | rfl <;> rfl) (by decide) (by unfold maxLen; omega) (by omega) HWZ.out Z.heap.size rfl ?_; intro ga ca w2 ho1 hg1 hat1 hlt1; have hc1 := hg1.cell HZC.out HNQ.out; have HO1 : Hid (w2.ownsRow w.heap.size 30 4 (.slice (some ⟨ga, 0, none⟩) (n + 1) ca) (n + 1) (ts.flatMap tokC ++ [.int .i64 k, .string tx, .int .i64 v, .int .i64 i])) := ho1; have HG1 : Hid _ := hg1; clear ho1 hg1 hat1) | fail)
        go_roundg (s.size - (i + m))
        case measure => omega
        case rel =>
          refine ⟨i + m, n + 1, ts ++ [⟨k, (s.data.toList.drop i).take m, v, i⟩], by go_num, by omega, Nat.le_refl _, by omega, ?_, ?_, ?_, below_grown (HB.out.trans (BZ.out.mono HBs.out)) OZ.out HG1.out HWZ.out⟩
          · show _ = _
            rw [List.length_append, HN.out]; rfl
          · have := HNX.out
            rw [if_neg hk] at this
            exact this
          · show World.ownsRow _ _ _ _ _ _ _
            rw [List.flatMap_append]
            simp only [List.flatMap_cons, List.flatMap_nil, List.append_nil, tokC, HTY.out]
            exact HO1.out
    · obtain rfl : i = s.size := by omega
      obtain ⟨a, c, rfl⟩ : ∃ a c, u4 = .slice a n c := by
        rcases HO.out.2 with ⟨e1, e2⟩ | ⟨g, cap, cur, e1, -⟩
        · exact ⟨_, _, by rw [e1, e2]⟩
        · exact ⟨_, _, e1⟩
      have HR : Hid _ := lex_end (by omega) (hL ▸ HF.out)
      have HLn : Hid (s.data.toList.length = s.size) := hL
      obtain ⟨Z, hZ⟩ : ∃ Z, wr.alloc (.cells #[.int .i64 0, .string { data := #[] }, .int .i64 0, .int .i64 s.size] 30) = Z := ⟨_, rfl⟩
      have BZ : Hid (Below wr.heap.size wr Z) := by
        show Below _ _ _
        rw [← hZ]
        exact bl1 _ _
      have OZ : Hid (Z.ownsRow w.heap.size 30 4 (.slice a n c) n (ts.flatMap tokC)) := row_thru HO.out BZ.out
      have HNC : Hid (∀ j u, ([.int .i64 0, .string { data := #[] }, .int .i64 0, .int .i64 s.size] : List Value)[j]? = some u → Z.cell? ((⟨wr.heap.size, 0, none⟩ : Addr).add j) = some u) := by
        intro j u hu
        rw [← hZ, Addr.add_lit, Nat.zero_add]
        exact row_cell (by simpa using hu)
      have HWZ : Hid (w.heap.size ≤ Z.heap.size) := by show _ ≤ _; have := BZ.out.size; have := HBs.out; omega
      have hbig2 : 4000 < n + 1 ∨ n + 1 ≤ 4000 := by omega
      have hlt' : ¬ (s.size : Int) < s.size := by omega
      clear hL
      rcases hbig2 with h4 | h4
      · go_wp2_with (first | (at_builtin; (try rw [hZ]); refine wpList_append_lies _ rfl _ _ 22 rfl w.heap.size 30 i2 _ 4 40 Tryd.underlying22 hi2 hz20 hz21 hz22 rfl (by decide) (.slice a n c) n (ts.flatMap tokC) rfl OZ.out ⟨wr.heap.size, 0, none⟩ 1 1 [.int .i64 0, .string { data := #[] }, .int .i64 0, .int .i64 s.size] rfl rfl HNC.out (by intro u hu; simp at hu; rcases hu with rfl | rfl | rfl | rfl <;> rfl) (by decide) (by unfold maxLen; omega) (by omega) HWZ.out Z.heap.size rfl ?_; intro ga ca w2 ho1 hg1 hat1 hlt1; have HO1 : Hid (w2.ownsRow w.heap.size 30 4 (.slice (some ⟨ga, 0, none⟩) (n + 1) ca) (n + 1) (ts.flatMap tokC ++ [.int .i64 0, .string { data := #[] }, .int .i64 0, .int .i64 s.size])) := ho1; have HG1 : Hid _ := hg1; clear ho1 hg1 hat1) | fail)
        go_ret2
        exact LexOut.none w _ (by rw [HR.out, if_pos (by rw [HN.out]; exact h4)]) (below_grown (HB.out.trans (BZ.out.mono HBs.out)) OZ.out HG1.out HWZ.out)
      · go_wp2_with (first | (at_builtin; (try rw [hZ]); refine wpList_append_lies _ rfl _ _ 22 rfl w.heap.size 30 i2 _ 4 40 Tryd.underlying22 hi2 hz20 hz21 hz22 rfl (by decide) (.slice a n c) n (ts.flatMap tokC) rfl OZ.out ⟨wr.heap.size, 0, none⟩ 1 1 [.int .i64 0, .string { data := #[] }, .int .i64 0, .int .i64 s.size] rfl rfl HNC.out (by intro u hu; simp at hu; rcases hu with rfl | rfl | rfl | rfl <;> rfl) (by decide) (by unfold maxLen; omega) (by omega) HWZ.out Z.heap.size rfl ?_; intro ga ca w2 ho1 hg1 hat1 hlt1; have HO1 : Hid (w2.ownsRow w.heap.size 30 4 (.slice (some ⟨ga, 0, none⟩) (n + 1) ca) (n + 1) (ts.flatMap tokC ++ [.int .i64 0, .string { data := #[] }, .int .i64 0, .int .i64 s.size])) := ho1; have HG1 : Hid _ := hg1; clear ho1 hg1 hat1) | fail)
        go_ret2
        have hr2 := HR.out
        rw [if_neg (by rw [HN.out]; omega), HLn.out] at hr2
        rw [hr2]
        refine ⟨_, _, _, rfl, ?_, by rw [List.length_append, HN.out]; rfl, below_grown (HB.out.trans (BZ.out.mono HBs.out)) OZ.out HG1.out HWZ.out⟩
        rw [List.flatMap_append]
        exact HO1.out

end Go.Proofs.YtfnakckiidblkaaDoor
