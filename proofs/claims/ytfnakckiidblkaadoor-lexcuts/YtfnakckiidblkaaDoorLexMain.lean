/- lex.Lex. -/
import Derived.Test.YtfnakckiidblkaaDoorLexRow
namespace Go.Proofs.YtfnakckiidblkaaDoor
open Go.RowKit Go.Maps Go.Lib
set_option linter.unusedVariables false
set_option linter.unusedSimpArgs false

theorem str_drop (s : ByteArray) (i : Nat) : s.extract i s.size = X.str (s.data.toList.drop i) := by
  rw [extract_eq, List.take_of_length_le (by simp)]
theorem lex_none {l : X.By} {i : Nat} {ts : List X.Tok} (hl : l.length ≤ 20000) (h : X.lexF l.length 0 l = (X.lexF (l.drop i).length i (l.drop i)).map (ts ++ ·)) (hne : l.drop i ≠ []) (hs : X.step (l.drop i) = none) : X.lex l = ([], 2) := by
  rw [X.lexF_step hne, hs] at h
  unfold X.lex
  rw [if_neg (by omega), h]
  rfl
theorem lex_next {l : X.By} {i k n v : Nat} {ts : List X.Tok} (h : X.lexF l.length 0 l = (X.lexF (l.drop i).length i (l.drop i)).map (ts ++ ·)) (hne : l.drop i ≠ []) (hs : X.step (l.drop i) = some (k, n, v)) :
    X.lexF l.length 0 l = (X.lexF (l.drop (i + n)).length (i + n) (l.drop (i + n))).map ((if k = 0 then ts else ts ++ [⟨k, (l.drop i).take n, v, i⟩]) ++ ·) := by
  rw [X.lexF_step hne, hs] at h
  rw [h]
  simp only [List.drop_drop]
  rw [Option.map_map]
  congr 1
  funext us
  by_cases hk : k = 0
  · simp [hk]
  · simp [hk]
theorem lex_end {l : X.By} {ts : List X.Tok} (hl : l.length ≤ 20000) (h : X.lexF l.length 0 l = (X.lexF (l.drop l.length).length l.length (l.drop l.length)).map (ts ++ ·)) : X.lex l = if 4000 < ts.length + 1 then ([], 8) else (ts ++ [⟨0, [], 0, l.length⟩], 0) := by
  rw [List.drop_length] at h
  unfold X.lex
  rw [if_neg (by omega), h]
  simp [X.lexF]

set_option maxRecDepth 100000 in
set_option maxHeartbeats 8000000 in
theorem lex_any (s : ByteArray) (hs : s.size ≤ maxLen) (w : World) (ht : Tab w) :
    Calls Tryd.prog 9 #[.string s] w (LexOut w (X.lex s.data.toList)) := by
  have hL : s.data.toList.length = s.size := by simp
  by_cases hbig : 20000 < s.size
  · have hr : X.lex s.data.toList = ([], 8) := by unfold X.lex; rw [if_pos (by omega)]
    rw [hr]
    go_enter Tryd.func9, Tryd.ntmps9
    go_wp2
    go_ret2
    exact LexOut.none w w rfl (Below.refl _ _)
  have hsm : s.size ≤ 20000 := by omega
  have HT : Hid _ := ht
  clear ht hbig hs
  obtain ⟨i2, hi2, hz20, hz21, hz22⟩ := info_parts infoT
  have hdec : decide ((20000 : Int) < s.size) = false := by simp; omega
  go_enter Tryd.func9, Tryd.ntmps9
  go_wp2_with fail
  go_loopg [4, 5] s.size (fun r lv iv wq => ∃ (i n : Nat) (ts : List X.Tok), iv = .int .i64 i ∧ i ≤ s.size ∧ s.size - i ≤ r ∧ n ≤ i ∧ Hid (ts.length = n) ∧ Hid (X.lexF s.data.toList.length 0 s.data.toList = (X.lexF (s.data.toList.drop i).length i (s.data.toList.drop i)).map (ts ++ ·)) ∧ Hid (wq.ownsRow w.heap.size 30 4 lv n (ts.flatMap tokC)) ∧ Hid (Below w.heap.size w wq))
  case atStart => exact ⟨0, 0, [], rfl, Nat.zero_le _, by omega, Nat.le_refl _, rfl, (by simp : X.lexF s.data.toList.length 0 s.data.toList = (X.lexF (s.data.toList.drop 0).length 0 (s.data.toList.drop 0)).map ([] ++ ·)), World.ownsRow_nil _ _ _ _, Below.refl _ _⟩
  case round =>
    obtain ⟨i, n, ts, rfl, hi, hr, hni, HN, HF, HO, HB⟩ := hrel
    have HBs : Hid (w.heap.size ≤ wr.heap.size) := HB.out.size
    by_cases hlt : i < s.size
    · have hlen : (s.data.toList.drop i).length = s.size - i := by simp
      have hne : s.data.toList.drop i ≠ [] := fun e => by rw [e] at hlen; simp at hlen; omega
      have hpc : ∀ w, Tab w → Calls Tryd.prog 15 #[.string (s.extract i s.size)] w fun e w' => e = .returned (X.resV (X.step (s.data.toList.drop i)) (s.data.toList.drop i)) ∧ Below w.heap.size w w' := fun w h => by
        rw [str_drop]
        exact piece_any (X.str (s.data.toList.drop i)) (by rw [str_size]; omega) (by rw [str_size]; omega) w h
      have HNE : Hid _ := hne
      have HTR : Hid (Tab wr) := HT.out.below HB.out
      cases hst : X.step (s.data.toList.drop i) with
      | none =>
        rw [hst] at hpc
        have HR : Hid (X.lex s.data.toList = ([], 2)) := lex_none (by omega) HF.out hne hst
        clear hne hst
        go_wp2_with (first | (go_at_call 15; refine (hpc _ HTR.out).mono ?_; unfold X.resV; rintro e w1 ⟨rfl, HB1⟩))
        go_ret2
        exact LexOut.none w _ HR.out (HB.out.trans ((HB1.alloc HB1.size _).mono HBs.out))
      | some q =>
        obtain ⟨k, m, v⟩ := q
        rw [hst] at hpc
        have HNX : Hid _ := lex_next HF.out hne hst
        obtain ⟨hm1, hm2⟩ := X.step_size hne hst
        rw [hlen] at hm2
        have htl : (X.str ((s.data.toList.drop i).take m)).size = m := by rw [str_size, List.length_take]; omega
        have htn : (X.str ((s.data.toList.drop i).take m)).toList.isEmpty = false := by
          rw [ByteArray.toList_eq, List.isEmpty_eq_false_iff]
          intro e
          have := congrArg List.length e
          rw [len_list, htl] at this
          simp at this
          omega
        have HTX : Hid (X.str ((s.data.toList.drop i).take m) = X.str ((s.data.toList.drop i).take m)) := rfl
        have hpc' : ∀ w, Tab w → Calls Tryd.prog 15 #[.string (s.extract i s.size)] w fun e w' => e = .returned (.agg #[.int .i64 k, .string (X.str ((s.data.toList.drop i).take m)), .int .i64 v, .int .i64 0]) ∧ Below w.heap.size w w' := hpc
        clear hpc hst hne
        generalize htx : X.str ((s.data.toList.drop i).take m) = tx at htl htn hpc' HTX
        have HTY : Hid _ := htx
        clear htx HTX
        by_cases hk : k = 0
        · subst hk
          go_wp2_with (first | (go_at_call 15; refine (hpc' _ HTR.out).mono ?_; rintro e w1 ⟨rfl, HB1⟩))
          go_roundg (s.size - (i + m))
          case measure => omega
          case rel =>
            refine ⟨i + m, n, ts, by go_num, by omega, Nat.le_refl _, by omega, HN.out, (by have := HNX.out; simpa using this : _ = _), ?_, HB.out.trans ((HB1.alloc HB1.size _).mono HBs.out)⟩
            exact row_thru HO.out (HB1.alloc HB1.size _)
        · have hk1 : ¬ (k : Int) = 0 := by omega
          have hk2 : ((k : Int) != 0) = true := by simp; omega
          go_wp2_with fail
          refine (hpc' _ HTR.out).mono ?_
          rintro e w1 ⟨rfl, HB1⟩
          obtain ⟨Z, hZ⟩ : ∃ Z, (w1.alloc (.cells #[.int .i64 k, .string tx, .int .i64 v, .int .i64 i] 30)).alloc (.cells #[.int .i64 k, .string tx, .int .i64 v, .int .i64 i] 30) = Z := ⟨_, rfl⟩
          have BZ : Hid (Below wr.heap.size wr Z) := by
            show Below _ _ _
            rw [← hZ]
            exact (HB1.alloc HB1.size _).alloc (by simp; have := HB1.size; omega) _
          have OZ : Hid (Z.ownsRow w.heap.size 30 4 u4 n (ts.flatMap tokC)) := row_thru HO.out BZ.out
          have HNC : Hid (∀ j u, ([.int .i64 k, .string tx, .int .i64 v, .int .i64 i] : List Value)[j]? = some u → Z.cell? ((⟨w1.heap.size + 1, 0, none⟩ : Addr).add j) = some u) := by
            intro j u hu
            rw [← hZ, Addr.add_lit, Nat.zero_add]
            have := row_cell (w := w1.alloc (.cells #[.int .i64 k, .string tx, .int .i64 v, .int .i64 i] 30)) (a := #[.int .i64 k, .string tx, .int .i64 v, .int .i64 i]) (t := 30) (k := j) (u := u) (by simpa using hu)
            simpa using this
          have HWZ : Hid (w.heap.size ≤ Z.heap.size) := by show _ ≤ _; have := BZ.out.size; have := HBs.out; omega
          have HZC : Hid (Z.cell? ⟨w1.heap.size, 1, none⟩ = some (.string tx)) := by
            show _ = _
            rw [← hZ]
            exact cell_thru (bl1 _ _) (row_cell (w := w1) (a := #[.int .i64 k, .string tx, .int .i64 v, .int .i64 i]) rfl)
          have HNQ : Hid (¬ some w1.heap.size = u4.ownBlock) := fun e => by have := (HO.out.lt _ e.symm).2; have := HB1.size; omega
          clear HB1
          go_wp2_with (first | (at_builtin; (try rw [hZ]); refine wpList_append_lies _ rfl _ _ 22 rfl w.heap.size 30 i2 _ 4 40 Tryd.underlying22 hi2 hz20 hz21 hz22 rfl (by decide) u4 n (ts.flatMap tokC) rfl OZ.out ⟨w1.heap.size + 1, 0, none⟩ 1 1 [.int .i64 k, .string tx, .int .i64 v, .int .i64 i] rfl rfl HNC.out (by intro u hu; simp at hu; rcases hu with rfl | rfl | rfl | rfl <;> rfl) (by decide) (by unfold maxLen; omega) (by omega) HWZ.out Z.heap.size rfl ?_; intro ga ca w2 ho1 hg1 hat1 hlt1; have hc1 := hg1.cell HZC.out HNQ.out; have HO1 : Hid (w2.ownsRow w.heap.size 30 4 (.slice (some ⟨ga, 0, none⟩) (n + 1) ca) (n + 1) (ts.flatMap tokC ++ [.int .i64 k, .string tx, .int .i64 v, .int .i64 i])) := ho1; have HG1 : Hid _ := hg1; clear ho1 hg1 hat1) | fail)
          go_roundg (s.size - (i + m))
          case measure => omega
          case rel =>
            refine ⟨i + m, n + 1, ts ++ [⟨k, (s.data.toList.drop i).take m, v, i⟩], by go_num, by omega, Nat.le_refl _, by omega, ?_, ?_, ?_, below_grown (HB.out.trans (BZ.out.mono HBs.out)) OZ.out HG1.out HWZ.out⟩
            · show _ = _
              rw [List.length_append, HN.out]; rfl
            · have := HNX.out
              rw [if_neg hk] at this
              exact this
            · show World.ownsRow _ _ _ _ _ _ _
              rw [List.flatMap_append]
              simp only [List.flatMap_cons, List.flatMap_nil, List.append_nil, tokC, HTY.out]
              exact HO1.out
    · obtain rfl : i = s.size := by omega
      obtain ⟨a, c, rfl⟩ : ∃ a c, u4 = .slice a n c := by
        rcases HO.out.2 with ⟨e1, e2⟩ | ⟨g, cap, cur, e1, -⟩
        · exact ⟨_, _, by rw [e1, e2]⟩
        · exact ⟨_, _, e1⟩
      have HR : Hid _ := lex_end (by omega) (hL ▸ HF.out)
      have HLn : Hid (s.data.toList.length = s.size) := hL
      obtain ⟨Z, hZ⟩ : ∃ Z, wr.alloc (.cells #[.int .i64 0, .string { data := #[] }, .int .i64 0, .int .i64 s.size] 30) = Z := ⟨_, rfl⟩
      have BZ : Hid (Below wr.heap.size wr Z) := by
        show Below _ _ _
        rw [← hZ]
        exact bl1 _ _
      have OZ : Hid (Z.ownsRow w.heap.size 30 4 (.slice a n c) n (ts.flatMap tokC)) := row_thru HO.out BZ.out
      have HNC : Hid (∀ j u, ([.int .i64 0, .string { data := #[] }, .int .i64 0, .int .i64 s.size] : List Value)[j]? = some u → Z.cell? ((⟨wr.heap.size, 0, none⟩ : Addr).add j) = some u) := by
        intro j u hu
        rw [← hZ, Addr.add_lit, Nat.zero_add]
        exact row_cell (by simpa using hu)
      have HWZ : Hid (w.heap.size ≤ Z.heap.size) := by show _ ≤ _; have := BZ.out.size; have := HBs.out; omega
      have hbig2 : 4000 < n + 1 ∨ n + 1 ≤ 4000 := by omega
      have hlt' : ¬ (s.size : Int) < s.size := by omega
      clear hL
      rcases hbig2 with h4 | h4
      · go_wp2_with (first | (at_builtin; (try rw [hZ]); refine wpList_append_lies _ rfl _ _ 22 rfl w.heap.size 30 i2 _ 4 40 Tryd.underlying22 hi2 hz20 hz21 hz22 rfl (by decide) (.slice a n c) n (ts.flatMap tokC) rfl OZ.out ⟨wr.heap.size, 0, none⟩ 1 1 [.int .i64 0, .string { data := #[] }, .int .i64 0, .int .i64 s.size] rfl rfl HNC.out (by intro u hu; simp at hu; rcases hu with rfl | rfl | rfl | rfl <;> rfl) (by decide) (by unfold maxLen; omega) (by omega) HWZ.out Z.heap.size rfl ?_; intro ga ca w2 ho1 hg1 hat1 hlt1; have HO1 : Hid (w2.ownsRow w.heap.size 30 4 (.slice (some ⟨ga, 0, none⟩) (n + 1) ca) (n + 1) (ts.flatMap tokC ++ [.int .i64 0, .string { data := #[] }, .int .i64 0, .int .i64 s.size])) := ho1; have HG1 : Hid _ := hg1; clear ho1 hg1 hat1) | fail)
        go_ret2
        exact LexOut.none w _ (by rw [HR.out, if_pos (by rw [HN.out]; exact h4)]) (below_grown (HB.out.trans (BZ.out.mono HBs.out)) OZ.out HG1.out HWZ.out)
      · go_wp2_with (first | (at_builtin; (try rw [hZ]); refine wpList_append_lies _ rfl _ _ 22 rfl w.heap.size 30 i2 _ 4 40 Tryd.underlying22 hi2 hz20 hz21 hz22 rfl (by decide) (.slice a n c) n (ts.flatMap tokC) rfl OZ.out ⟨wr.heap.size, 0, none⟩ 1 1 [.int .i64 0, .string { data := #[] }, .int .i64 0, .int .i64 s.size] rfl rfl HNC.out (by intro u hu; simp at hu; rcases hu with rfl | rfl | rfl | rfl <;> rfl) (by decide) (by unfold maxLen; omega) (by omega) HWZ.out Z.heap.size rfl ?_; intro ga ca w2 ho1 hg1 hat1 hlt1; have HO1 : Hid (w2.ownsRow w.heap.size 30 4 (.slice (some ⟨ga, 0, none⟩) (n + 1) ca) (n + 1) (ts.flatMap tokC ++ [.int .i64 0, .string { data := #[] }, .int .i64 0, .int .i64 s.size])) := ho1; have HG1 : Hid _ := hg1; clear ho1 hg1 hat1) | fail)
        go_ret2
        have hr2 := HR.out
        rw [if_neg (by rw [HN.out]; omega), HLn.out] at hr2
        rw [hr2]
        refine ⟨_, _, _, rfl, ?_, by rw [List.length_append, HN.out]; rfl, below_grown (HB.out.trans (BZ.out.mono HBs.out)) OZ.out HG1.out HWZ.out⟩
        rw [List.flatMap_append]
        exact HO1.out

end Go.Proofs.YtfnakckiidblkaaDoor
