/- The walk of LexSpaced. -/
import Derived.Test.YtfnakckiidblkaaDoorLexLive
import Derived.Test.YtfnakckiidblkaaDoorLexApartB
import Derived.Lib.AppendStr
import Derived.Laws.BytesArg
namespace Go.Proofs.YtfnakckiidblkaaDoor
open Go.RowKit Go.Maps Go.Lib
set_option linter.unusedVariables false
set_option linter.unusedSimpArgs false

theorem infoB : (Tryd.prog.info? 5).map (fun i => (i.zero, i.size, i.bytes)) = some (some (.int .u8 0), 1, 1) := by kernel_rfl
def byV (c : UInt8) : Value := .int .u8 c.toNat
theorem strCells_eq (l : X.By) : strCells (X.str l) = l.map byV := by unfold strCells; rw [str_list]; rfl
theorem sp_snoc (L : List X.Tok) (k : Nat) (hk : k < L.length) : X.sp (L.take (k + 1)) = X.sp (L.take k) ++ 32 :: (L.getD k noTok).text := by
  rw [List.take_succ_eq_append_getElem hk]
  unfold X.sp
  rw [List.flatMap_append]
  simp [List.getD, hk]
theorem conv_row {w : World} {g n cap : Nat} {l : X.By} (hn : l.length = n) (h : ∀ j u, (l.map byV)[j]? = some u → w.cell? ⟨g, j, none⟩ = some u) : (convert 31 9 (.slice (some ⟨g, 0, none⟩) n cap)).run Tryd.prog w = .ok (.string (X.str l)) w := by
  have h1 := run_convert_bytes_arg (P := Tryd.prog) w 31 5 Tryd.underlying31 Tryd.underlying5 g 0 n cap (l.map fun c => (c.toNat : Int)) (by simpa using hn) (fun i hi => by
    rw [Nat.zero_add]
    have hi' : i < l.length := by omega
    have e1 : (l.map fun c => (c.toNat : Int)).getD i 0 = (l[i].toNat : Int) := by simp [List.getD, hi']
    rw [e1]
    exact h i _ (by simp [byV, hi'])) 9 Tryd.underlying9
  rw [h1]
  congr 1
  congr 1
  unfold strOfNums X.str
  simp
  conv => rhs; rw [← List.map_id l]
  refine List.map_congr_left fun c hc => ?_
  simp

theorem core_at {M L : List X.Tok} (h : M.map X.core = L.map X.core) (k : Nat) : (M.getD k noTok).kind = (L.getD k noTok).kind ∧ (M.getD k noTok).text = (L.getD k noTok).text ∧ (M.getD k noTok).n = (L.getD k noTok).n := by
  have h1 := congrArg (fun l => l[k]?) h
  simp only [List.getElem?_map] at h1
  simp only [List.getD]
  cases e1 : M[k]? with
  | none =>
    rw [e1] at h1
    cases e2 : L[k]? with
    | none => exact ⟨rfl, rfl, rfl⟩
    | some y => rw [e2] at h1; cases h1
  | some x =>
    rw [e1] at h1
    cases e2 : L[k]? with
    | none => rw [e2] at h1; cases h1
    | some y =>
      rw [e2] at h1
      simp only [Option.map_some, Option.some.injEq, X.core, Prod.mk.injEq] at h1
      exact h1

set_option maxRecDepth 100000 in
set_option maxHeartbeats 8000000 in
theorem spaced_any (s : ByteArray) (hs : s.size ≤ maxLen) (w : World) (ht : Tab w) :
    Calls Tryd.prog 6 #[.string s] w fun e w' => e = .returned (.bool true) ∧ Below w.heap.size w w' := by
  have hL : s.data.toList.length = s.size := by simp
  have hmx : maxLen = 9223372036854775807 := rfl
  have HT : Hid _ := ht
  clear ht
  have c1 := fun w h => lex_any s hs w h
  obtain ⟨L, z, hr⟩ : ∃ L z, X.lex s.data.toList = (L, z) := ⟨_, _, rfl⟩
  rw [hr] at c1
  go_enter Tryd.func6, Tryd.ntmps6
  go_wp2_with fail
  refine (c1 _ HT.out).mono ?_
  rintro e w1 ⟨a, n, c, rfl, ho, hn, hb⟩
  have HV : Hid _ := TV.of_own ho hn
  have HT1 : Hid (Tab w1) := HT.out.below hb
  have HB1 : Hid (Below w.heap.size w w1) := hb
  have hlive := live_any w1 HT1.out
  have hend : ∀ w3, Below w1.heap.size w1 w3 → Below w.heap.size w w3 := fun w3 h => HB1.out.trans (h.mono HB1.out.size)
  clear ho hb c1
  simp only at hn
  by_cases hz : z = 0
  rotate_left
  · have hz1 : ((z : Int) != 0) = true := by simp; omega
    have hz2 : ¬ (z : Int) = 0 := by omega
    go_wp2_with (first | (go_at_call 12; refine hlive.mono ?_; rintro e w3 ⟨rfl, hb3⟩))
    go_ret
    exact ⟨ret_b rfl, hend _ hb3⟩
  subst hz
  by_cases h1 : 1500 < n
  · go_wp2_with (first | (go_at_call 12; refine hlive.mono ?_; rintro e w3 ⟨rfl, hb3⟩))
    go_ret
    exact ⟨ret_b rfl, hend _ hb3⟩
  have h1' : decide ((1500 : Int) < n) = false := by simp; omega
  have HS : Hid _ := X.std_of hr
  have HP : Hid _ := X.lex_parts hr
  have HR : Hid _ := hr
  have HN : Hid (L.length = n) := hn
  have hn0 : 0 < n := by have := HS.out.ne; omega
  obtain ⟨b0, off0, hA, -⟩ := HV.out.at (i := 0) hn0
  subst hA
  clear hr hn hlive
  obtain ⟨i1, hi1, hz10, hz11, hz12⟩ := info_parts infoB
  go_wp2_with fail
  go_loopg [5, 6] n (fun r bv iv wq => ∃ (k m : Nat), iv = .int .i64 k ∧ k ≤ n ∧ n - k ≤ r ∧ m ≤ k * 20001 ∧ Hid ((X.sp (L.take k)).length = m) ∧ Hid (wq.ownsRow w1.heap.size 5 1 bv m ((X.sp (L.take k)).map byV)) ∧ Hid (Below w1.heap.size w1 wq))
  case atStart => exact ⟨0, 0, rfl, Nat.zero_le _, by omega, Nat.zero_le _, rfl, World.ownsRow_nil _ _ _ _, Below.refl _ _⟩
  case round =>
    obtain ⟨k, m, rfl, hk, hr, hm, HM, HO, HB⟩ := hrel
    have HBs : Hid (w1.heap.size ≤ wr.heap.size) := HB.out.size
    by_cases hlt : k < n
    · obtain ⟨b, off, hA, -, q1, -, -⟩ := HV.out.at hlt
      obtain ⟨rfl, rfl⟩ : b0 = b ∧ off0 = off := by injection hA with hA; injection hA with h1 h2; exact ⟨h1, h2⟩
      have hx := (HS.out.each k (by rw [HN.out]; exact hlt)).2.1
      have HSN : Hid _ := sp_snoc L k (by rw [HN.out]; exact hlt)
      have hl20 := HP.out.1
      have hii : (k : Int) < n := by omega
      have hin : 0 ≤ (k : Int) := by omega
      obtain ⟨xt, hxt⟩ : ∃ xt, (L.getD k noTok).text = xt := ⟨_, rfl⟩
      rw [hxt] at q1 hx HSN
      have htl : (X.str xt).size = xt.length := str_size xt
      have HTC : Hid (strCells (X.str xt) = xt.map byV) := strCells_eq xt
      have hxl : xt.length ≤ 20000 := by omega
      clear hx
      obtain ⟨tl, HTL⟩ : ∃ tl, Hid (xt.length = tl) := ⟨_, rfl⟩
      rw [HTL.out] at htl hxl
      generalize X.str xt = tx at q1 htl HTC
      have HQ1 : Hid _ := q1
      obtain ⟨Z, hZ⟩ : ∃ Z, wr.alloc (.cells #[.int .u8 32] 5) = Z := ⟨_, rfl⟩
      have BZ : Hid (Below wr.heap.size wr Z) := by
        show Below _ _ _
        rw [← hZ]
        exact bl1 _ _
      have OZ : Hid (Z.ownsRow w1.heap.size 5 1 u5 m ((X.sp (L.take k)).map byV)) := row_thru HO.out BZ.out
      have HNC : Hid (∀ j u, ([.int .u8 32] : List Value)[j]? = some u → Z.cell? ((⟨wr.heap.size, 0, none⟩ : Addr).add j) = some u) := by
        intro j u hu
        rw [← hZ, Addr.add_lit, Nat.zero_add]
        exact row_cell (by simpa using hu)
      have HWZ : Hid (w1.heap.size ≤ Z.heap.size) := by show _ ≤ _; have := BZ.out.size; have := HBs.out; omega
      have HBZ : Hid (Below w1.heap.size w1 Z) := HB.out.trans (BZ.out.mono HBs.out)
      clear q1
      go_wp2_with (first
        | (at_builtin; (try rw [hZ]); refine wpList_append_lies _ rfl _ _ 31 rfl w1.heap.size 5 i1 _ 1 1 Tryd.underlying31 hi1 hz10 hz11 hz12 rfl (by decide) u5 m ((X.sp (L.take k)).map byV) rfl OZ.out ⟨wr.heap.size, 0, none⟩ 1 1 [.int .u8 32] rfl rfl HNC.out (by intro u hu; simp at hu; rcases hu with rfl; rfl) (by decide) (by omega) (by omega) HWZ.out Z.heap.size rfl ?_; intro ga ca w2 ho1 hg1 hat1 hlt1; have HO1 : Hid (w2.ownsRow w1.heap.size 5 1 (.slice (some ⟨ga, 0, none⟩) (m + 1) ca) (m + 1) ((X.sp (L.take k)).map byV ++ [.int .u8 32])) := ho1; have HB2 : Hid (Below w1.heap.size w1 w2) := below_grown HBZ.out OZ.out hg1 HWZ.out; have HW2 : Hid (w1.heap.size ≤ w2.heap.size) := HB2.out.size; have hq := cell_thru HB2.out HQ1.out; clear ho1 hg1 hat1)
        | (at_builtin; refine wpList_append_own_string _ rfl _ _ 31 9 rfl w1.heap.size 5 i1 Tryd.underlying31 Tryd.underlying9 hi1 hz10 hz11 hz12 (.slice (some ⟨ga, 0, none⟩) (m + 1) ca) (m + 1) ((X.sp (L.take k)).map byV ++ [.int .u8 32]) rfl HO1.out tx rfl (by omega) (by omega) HW2.out ?_; intro v' w3 ho3 hg3 hnil3; have HO3 : Hid (w3.ownsRow w1.heap.size 5 1 v' (m + 1 + tx.size) ((X.sp (L.take k)).map byV ++ [.int .u8 32] ++ strCells tx)) := ho3; have HB3 : Hid (Below w1.heap.size w1 w3) := below_grown HB2.out HO1.out hg3 HW2.out; clear ho3 hg3 hnil3)
        | fail)
      go_roundg (n - (k + 1))
      case measure => omega
      case rel =>
        refine ⟨k + 1, m + 1 + tx.size, by go_num, by omega, Nat.le_refl _, by omega, ?_, ?_, HB3.out⟩
        · show _ = _
          rw [HSN.out, List.length_append, List.length_cons, HM.out, HTL.out]
          omega
        · show World.ownsRow _ _ _ _ _ _ _
          have := HO3.out
          rw [HTC.out] at this
          rw [HSN.out, List.map_append, List.map_cons]
          rw [List.append_assoc] at this
          exact this
    · obtain rfl : k = n := by omega
      have hfull : L.take k = L := List.take_of_length_le (by rw [HN.out]; exact Nat.le_refl _)
      rw [hfull] at HM HO
      have HBr : Hid (Below w.heap.size w wr) := hend _ HB.out
      have HTr : Hid (Tab wr) := HT.out.below HBr.out
      have hlive := live_any wr HTr.out
      have hend2 : ∀ w3, Below wr.heap.size wr w3 → Below w.heap.size w w3 := fun w3 h => HBr.out.trans (h.mono HBr.out.size)
      have hm0 : 0 < m := by
        rw [← HM.out]
        have h5 : L ≠ [] := fun e => by have := HN.out; rw [e] at this; simp at this; omega
        cases hLL : L with
        | nil => exact absurd hLL h5
        | cons t ts => simp [X.sp]
      obtain ⟨g, cap, rfl⟩ : ∃ g cap, u5 = .slice (some ⟨g, 0, none⟩) m cap := by
        rcases HO.out.2 with ⟨e1, e2⟩ | ⟨g, cap, cur, e1, -⟩
        · omega
        · exact ⟨_, _, e1⟩
      have hii : ¬ (k : Int) < k := by omega
      by_cases h20 : 20000 < m
      · go_wp2_with (first | (go_at_call 12; refine hlive.mono ?_; rintro e w3 ⟨rfl, hb3⟩))
        go_ret
        exact ⟨ret_b rfl, hend2 _ hb3⟩
      have h20' : decide ((20000 : Int) < m) = false := by simp; omega
      have hcv := conv_row (w := wr) (g := g) (n := m) (cap := cap) (l := X.sp L) HM.out (fun j u hu => by
        have hj : j < m := by have := (List.getElem?_eq_some_iff.1 hu).1; rw [List.length_map, HM.out] at this; exact this
        have := HO.out.cellAt j (by omega)
        rw [this]
        exact hu)
      obtain ⟨M, hM1, hM2⟩ := X.lex_spaced HR.out (by rw [HM.out]; omega)
      have c2 := fun w h => lex_any (X.str (X.sp L)) (by rw [str_size, HM.out]; omega) w h
      rw [str_list, hM1] at c2
      generalize X.str (X.sp L) = T at hcv c2
      have hML : M.length = k := by have := congrArg List.length hM2; rw [List.length_map, List.length_map, HN.out] at this; exact this
      have HMC : Hid _ := hM2
      clear hlive hM1 hM2
      go_wp2_with fail
      refine (c2 _ HTr.out).mono ?_
      rintro e w2 ⟨a2, n2, c2', rfl, ho, hn2, hb2⟩
      have HV2 : Hid _ := TV.of_own ho hn2
      obtain rfl : n2 = k := by rw [← hn2]; exact hML
      have HV1 : Hid _ := HV.out.below (HB.out.trans (hb2.mono HB.out.size))
      have HB2 : Hid (Below w.heap.size w w2) := hend2 _ hb2
      clear ho hn2 hb2 c2 hcv hend2
      generalize wr = wo at *
      go_wp2_with fail
      clear HO HB HBs HBr HTr hend
      go_loopg [9] n2 (fun r iv wq => ∃ (k : Nat), iv = .int .i64 k ∧ k ≤ n2 ∧ n2 - k ≤ r ∧ Hid (Below w2.heap.size w2 wq))
      case atStart => exact ⟨0, rfl, Nat.zero_le _, by omega, Below.refl _ _⟩
      case round =>
        obtain ⟨k, rfl, hk2, hr2, HB⟩ := hrel
        have HBr : Hid (Below w.heap.size w wr) := HB2.out.trans (HB.out.mono HB2.out.size)
        have HTr : Hid (Tab wr) := HT.out.below HBr.out
        by_cases hlt2 : k < n2
        · obtain ⟨b1, off1, hA1, q0, q1, q2, q3⟩ := HV1.out.at hlt2
          obtain ⟨b2, off2, hA2, r0, r1, r2, r3⟩ := HV2.out.at hlt2
          have q0 := cell_thru HB.out q0
          have q1 := cell_thru HB.out q1
          have q2 := cell_thru HB.out q2
          have r0 := cell_thru HB.out r0
          have r1 := cell_thru HB.out r1
          have r2 := cell_thru HB.out r2
          obtain ⟨e1, e2, e3⟩ := core_at HMC.out k
          rw [e1] at r0
          rw [e2] at r1
          rw [e3] at r2
          obtain ⟨rfl, rfl⟩ : b0 = b1 ∧ off0 = off1 := by injection hA1 with hA; injection hA with h1 h2; exact ⟨h1, h2⟩
          subst hA2
          generalize L.getD k noTok = x at q0 q1 q2 r0 r1 r2
          have hii2 : (k : Int) < n2 := by omega
          have hin2 : 0 ≤ (k : Int) := by omega
          have d1 : ((x.kind : Int) != x.kind) = false := by simp
          have d2 : ((x.n : Int) != x.n) = false := by simp
          have d3 : ((X.str x.text).toList == (X.str x.text).toList) = true := by simp
          go_wp2_with fail
          go_quiet (fail)
          go_wp2
          go_roundg (n2 - (k + 1))
          case measure => omega
          case rel => exact ⟨k + 1, by go_num, by omega, Nat.le_refl _, below_drew' HB.out _⟩
        · obtain rfl : k = n2 := by omega
          go_wp2_with (first | (go_at_call 12; refine (live_any _ HTr.out).mono ?_; rintro e w4 ⟨rfl, hb4⟩))
          go_ret
          exact ⟨ret_b rfl, HBr.out.trans (hb4.mono HBr.out.size)⟩

end Go.Proofs.YtfnakckiidblkaaDoor
