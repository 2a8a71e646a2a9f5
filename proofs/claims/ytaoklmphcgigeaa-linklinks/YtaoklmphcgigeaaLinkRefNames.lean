/- What the document's names comes to. -/
import Derived.Test.YtaoklmphcgigeaaLinkRef
import Derived.Test.YtaoklmphcgigeaaLinkOrderM
namespace Go.Proofs.Ytaoklmphcgigeaa
open Go.RowKit Go.Lib
set_option linter.unusedVariables false
set_option linter.unusedSimpArgs false

theorem look_take {ss : List Sym} {nm : ByteArray} {j : Nat} (hj : j < ss.length) (h : L.look (ss.take j) nm = none) (hne : ¬ (ss.getD j noSym).name = nm) : L.look (ss.take (j + 1)) nm = none := by
  have hg : ss.getD j noSym = ss[j] := by simp [List.getD, hj]
  rw [hg] at hne
  unfold L.look at *
  rw [List.take_succ_eq_append_getElem hj, List.find?_append, h]
  simp [hne]
theorem twice_at {ss : List Sym} {i : Nat} (hi : i < ss.length) : L.twice (ss.take (i + 1)) = (L.twice (ss.take i) || (L.look (ss.take i) (ss.getD i noSym).name).isSome) := by
  have hg : ss.getD i noSym = ss[i] := by simp [List.getD, hi]
  rw [List.take_succ_eq_append_getElem hi, L.twice_snoc, hg]
theorem twice_of {ss : List Sym} {i j : Nat} (hi : i < ss.length) (hj : j < i) (h : (ss.getD j noSym).name = (ss.getD i noSym).name) : L.twice ss = true := by
  have h1 : (L.look (ss.take i) (ss.getD i noSym).name).isSome = true := by
    unfold L.look
    rw [List.find?_isSome]
    have hm : ss.getD j noSym ∈ ss.take i := by
      have e : ss.getD j noSym = (ss.take i)[j]'(by rw [List.length_take]; omega) := by simp [List.getD, show j < ss.length by omega]
      rw [e]
      exact List.getElem_mem _
    exact ⟨_, hm, decide_eq_true h⟩
  have h2 : L.twice (ss.take (i + 1)) = true := by rw [twice_at hi, h1]; simp
  have e : ss = ss.take (i + 1) ++ ss.drop (i + 1) := (List.take_append_drop _ _).symm
  rw [e, L.twice_append, h2]
  simp
def nameE (ss : List Sym) (os : List ObjD) : Int := if L.twice ss = true then 5 else L.ask ss (L.rels os)

set_option maxRecDepth 100000 in
set_option maxHeartbeats 8000000 in
theorem rnames_any {w : World} {a : Option Addr} {l c : Nat} {os : List ObjD} (h : ObjsV w a l c os) (hl : l ≤ 16) (hmay : ∀ o ∈ os, o.may = true) {b : Option Addr} {n d : Nat} {ss : List Sym} (hS : SymsV w b n d ss) (hn : n ≤ 1048576) :
    Calls Try.prog 27 #[.slice a l c, .slice b n d] w fun e w' => e = .returned (.int .i64 (nameE ss os)) ∧ Below w.heap.size w w' := by
  have HV : Hid _ := h
  have HS : Hid _ := hS
  have HM : Hid _ := hmay
  have hcnt := h.count
  have hsn := hS.count
  clear h hS hmay
  go_enter Try.func27, Try.ntmps27
  go_wp2_with fail
  go_loopg [5] n (fun r iv wq => ∃ (i : Nat), iv = .int .i64 i ∧ i ≤ n ∧ n - i ≤ r ∧ Hid (L.twice (ss.take i) = false) ∧ Hid (Below w.heap.size w wq))
  case atStart => exact ⟨0, rfl, Nat.zero_le _, by omega, (rfl : L.twice (ss.take 0) = false), Below.refl _ _⟩
  case round =>
    obtain ⟨i, rfl, hi, hr, HT, HB⟩ := hrel
    by_cases hil : i < n
    · have hii : (i : Int) < n := by omega
      have hin : 0 ≤ (i : Int) := by omega
      have HTA : Hid _ := twice_at (ss := ss) (i := i) (by omega)
      rcases HS.out.cells with h0 | ⟨sb, so, hA, hc⟩
      · omega
      have HC : Hid _ := hc
      obtain ⟨n0, -, -⟩ := hc i hil
      obtain ⟨nm, hnm⟩ : ∃ nm, (ss.getD i noSym).name = nm := ⟨_, rfl⟩
      rw [hnm] at n0 HTA
      have HNM : Hid _ := hnm
      have HN0 : Hid (∀ y : World, Below w.heap.size w y → y.cell? ⟨sb, so + i * 3, none⟩ = some (.string nm)) := fun y hb => cell_thru hb n0
      subst hA
      clear hc n0 hnm
      generalize wr = U at *
      go_wp2_with fail
      go_loopg [6] i (fun r jv wq => ∃ (j : Nat), jv = .int .i64 j ∧ j ≤ i ∧ i - j ≤ r ∧ Hid (L.look (ss.take j) nm = none) ∧ Hid (Below w.heap.size w wq))
      case atStart => exact ⟨0, rfl, Nat.zero_le _, by omega, (rfl : L.look (ss.take 0) nm = none), HB.out⟩
      case round =>
        obtain ⟨j, rfl, hj, hr2, HK, HB2⟩ := hrel
        by_cases hjl : j < i
        · have hjj : (j : Int) < i := by omega
          have hjn : 0 ≤ (j : Int) := by omega
          have hjn2 : (j : Int) < n := by omega
          obtain ⟨m0, -, -⟩ := HC.out j (by omega)
          have m0 := cell_thru HB2.out m0
          have n0 := HN0.out wr HB2.out
          have HLT : Hid _ := @look_take ss nm j (by omega) HK.out
          have HTO : Hid _ := @twice_of ss i j (by omega) hjl
          rw [HNM.out] at HTO
          obtain ⟨mn, hmn⟩ : ∃ mn, (ss.getD j noSym).name = mn := ⟨_, rfl⟩
          rw [hmn] at m0 HLT HTO
          have HBd : Hid (Below w.heap.size w wr.drew) := HB2.out.drew
          clear hmn
          by_cases he : mn = nm
          · subst he
            have HE : Hid (nameE ss os = 5) := by show _ = _; unfold nameE; rw [if_pos (HTO.out rfl)]
            clear HLT HTO
            go_wp2_with fail
            go_region
            go_wp2
            go_ret
            exact ⟨by rw [HE.out]; rfl, HBd.out⟩
          · have hne := toList_ne he
            have HE : Hid (L.look (ss.take (j + 1)) nm = none) := HLT.out he
            clear HLT HTO
            go_wp2_with fail
            go_region
            go_wp2_with fail
            go_roundg (i - (j + 1))
            case measure => omega
            case rel => exact ⟨j + 1, by go_num, by omega, Nat.le_refl _, HE.out, HBd.out⟩
        · obtain rfl : j = i := by omega
          have hjj : ¬ (j : Int) < j := by omega
          have HE : Hid (L.twice (ss.take (j + 1)) = false) := by show _ = _; rw [HTA.out, HT.out, HK.out]; rfl
          clear HTA HT HK
          go_wp2_with fail
          go_roundg (n - (j + 1))
          case measure => omega
          case rel => exact ⟨j + 1, by go_num, by omega, Nat.le_refl _, HE.out, HB2.out⟩
    · obtain rfl : i = n := by omega
      have hii : ¬ (i : Int) < i := by omega
      have HE0 : Hid (nameE ss os = L.ask ss (L.rels (os.drop 0))) := by
        have := HT.out
        rw [List.take_of_length_le (by omega)] at this
        show _ = _
        unfold nameE
        rw [this]
        rfl
      clear HT
      generalize wr = U at *
      go_wp2_with fail
      go_loopg [7] l (fun r kv wq => ∃ (k : Nat), kv = .int .i64 k ∧ k ≤ l ∧ l - k ≤ r ∧ Hid (nameE ss os = L.ask ss (L.rels (os.drop k))) ∧ Hid (Below w.heap.size w wq))
      case atStart => exact ⟨0, rfl, Nat.zero_le _, by omega, HE0.out, HB.out⟩
      case round =>
        obtain ⟨k, rfl, hk, hr2, HA, HB2⟩ := hrel
        by_cases hkl : k < l
        · rcases HV.out.cells with h0 | ⟨ob, off, hA, hc⟩
          · omega
          obtain ⟨s, hC, hO⟩ := hc k hkl
          have HAR : Hid _ := ask_rels (ss := ss) (os := os) (k := k) (by omega)
          obtain ⟨dd, hdd⟩ : ∃ dd, os.getD k noObj = dd := ⟨_, rfl⟩
          have hmd : dd.may = true := by rw [← hdd]; exact HM.out _ (by simp [List.getD, show k < os.length by omega])
          rw [hdd] at hC hO HAR
          have hrn : s.l3 ≤ 8000 := by have := (may_sizes hmd).2.2.2.1; have h3 := hO.rels.count; omega
          obtain ⟨-, -, -, k3⟩ := hC
          obtain ⟨a1, l1, c1, a2, l2, c2, a3, l3, c3⟩ := s
          simp only at k3 hrn
          subst hA
          have hkk : (k : Int) < l := by omega
          have hkn : 0 ≤ (k : Int) := by omega
          have HRV : Hid (RelsV w a3 l3 c3 dd.rels) := hO.rels
          have hrc : dd.rels.length = l3 := hO.rels.count
          have HC3 : Hid (∀ y : World, Below w.heap.size w y → y.cell? ⟨ob, off + k * 4 + 3, none⟩ = some (.slice a3 l3 c3)) := fun y hb => cell_thru hb k3
          clear hc hdd hmd hO k3
          generalize wr = V at *
          go_wp2_with fail
          go_loopg [8] l3 (fun r qv wq => ∃ (q : Nat), qv = .int .i64 q ∧ q ≤ l3 ∧ l3 - q ≤ r ∧ Hid (L.ask ss dd.rels = L.ask ss (dd.rels.drop q)) ∧ Hid (Below w.heap.size w wq))
          case atStart => exact ⟨0, rfl, Nat.zero_le _, by omega, (rfl : L.ask ss dd.rels = L.ask ss (dd.rels.drop 0)), HB2.out⟩
          case round =>
            obtain ⟨q, rfl, hq, hr3, HQ, HB3⟩ := hrel
            have u3 := HC3.out wr HB3.out
            by_cases hql : q < l3
            · rcases HRV.out.cells with h0 | ⟨rb, ro, hA3, hc3⟩
              · omega
              obtain ⟨m0, m1, m2, m3⟩ := hc3 q hql
              have m0 := cell_thru HB3.out m0
              have m1 := cell_thru HB3.out m1
              have m2 := cell_thru HB3.out m2
              have m3 := cell_thru HB3.out m3
              have HAD : Hid _ := ask_drop (ss := ss) (rs := dd.rels) (k := q) (by omega)
              obtain ⟨y, hy⟩ : ∃ y, dd.rels.getD q noRel = y := ⟨_, rfl⟩
              rw [hy] at m0 m1 m2 m3 HAD
              obtain ⟨ry, ky, ny, ay⟩ := y
              simp only at m0 m1 m2 m3
              subst hA3
              have hqq : (q : Int) < l3 := by omega
              have hqn : 0 ≤ (q : Int) := by omega
              clear hc3 hy
              obtain ⟨Y3, hY3⟩ : ∃ Y, wr.alloc (.cells #[.int .i64 ry, .int .i64 ky, .string ny, .int .i64 ay] 45) = Y := ⟨_, rfl⟩
              have bY3 : Below wr.heap.size wr Y3 := by subst hY3; exact bl_one _ _
              have g2 : Y3.cell? ⟨wr.heap.size, 2, none⟩ = some (.string ny) := by subst hY3; exact cell_last rfl rfl
              have g1 : Y3.cell? ⟨wr.heap.size, 1, none⟩ = some (.int .i64 ky) := by subst hY3; exact cell_last rfl rfl
              have bw3 : Below w.heap.size w Y3 := HB3.out.trans (bY3.mono HB3.out.size)
              go_wp2_with fail
              refine (rfind_any (HS.out.below bw3) hn ny).mono ?_
              rintro e y4 ⟨rfl, hb4⟩
              have bw4 : Below w.heap.size w y4 := bw3.trans (hb4.mono bw3.size)
              have hAD := HAD.out
              have hA1 : L.askOne ss ⟨ry, ky, ny, ay⟩ = (match L.look ss ny with | none => 6 | some s => if decide (ky = 2) = decide (s.kind = 2) then 0 else 3) := rfl
              rw [hA1] at hAD
              clear hA1 HAD hY3
              obtain ⟨gn, gk2, gp, hG⟩ : ∃ gn gk gp, (L.look ss ny).getD noSym = ⟨gn, gk, gp⟩ := ⟨_, _, _, rfl⟩
              obtain ⟨ok, hok⟩ : ∃ ok, (L.look ss ny).isSome = ok := ⟨_, rfl⟩
              rw [hG, hok]
              simp only
              obtain ⟨Y4, hY4⟩ : ∃ Y, y4.alloc (.cells #[.string gn, .int .i64 gk2, .int .i64 gp] 36) = Y := ⟨_, rfl⟩
              have bY4 : Below y4.heap.size y4 Y4 := by subst hY4; exact bl_one _ _
              have s1 : Y4.cell? ⟨y4.heap.size, 1, none⟩ = some (.int .i64 gk2) := by subst hY4; exact cell_last rfl rfl
              have b34 : Below Y3.heap.size Y3 Y4 := hb4.trans (bY4.mono hb4.size)
              have g1' := cell_thru b34 g1
              have bw5 : Below w.heap.size w Y4 := bw4.trans (bY4.mono bw4.size)
              cases hlk : L.look ss ny with
              | none =>
                rw [hlk] at hAD hok
                have HE : Hid (nameE ss os = 6) := by
                  show _ = _
                  have h1 : L.ask ss dd.rels = 6 := by rw [HQ.out, hAD]; rfl
                  rw [HA.out, HAR.out, h1]
                  rfl
                subst hok
                clear hAD HQ HAR HA hlk hG
                simp only [Option.isSome_none]
                go_wp2
                go_ret
                exact ⟨by rw [HE.out]; rfl, bw5⟩
              | some sy =>
                rw [hlk] at hAD hok hG
                simp only [Option.getD_some] at hG
                subst hG
                subst hok
                simp only [Option.isSome_some]
                simp only at hAD
                by_cases h1 : gk2 = 2
                · subst h1
                  by_cases h2 : ky = 2
                  · subst h2
                    have HE : Hid (L.ask ss dd.rels = L.ask ss (dd.rels.drop (q + 1))) := by show _ = _; rw [HQ.out, hAD]; simp
                    clear hAD HQ hlk
                    go_wp2_with fail
                    go_roundg (l3 - (q + 1))
                    case measure => omega
                    case rel => exact ⟨q + 1, by go_num, by omega, Nat.le_refl _, HE.out, bw5⟩
                  · have HE : Hid (nameE ss os = 3) := by
                      show _ = _
                      have h3 : L.ask ss dd.rels = 3 := by rw [HQ.out, hAD]; simp [h2]
                      rw [HA.out, HAR.out, h3]
                      rfl
                    have h2b : (ky == 2) = false := by simpa using h2
                    clear hAD HQ HAR HA hlk
                    go_wp2
                    go_ret
                    exact ⟨by rw [HE.out]; rfl, bw5⟩
                · have h1b : (gk2 == 2) = false := by simpa using h1
                  by_cases h2 : ky = 2
                  · subst h2
                    have HE : Hid (nameE ss os = 3) := by
                      show _ = _
                      have h3 : L.ask ss dd.rels = 3 := by rw [HQ.out, hAD]; simp [h1]
                      rw [HA.out, HAR.out, h3]
                      rfl
                    clear hAD HQ HAR HA hlk
                    go_wp2
                    go_ret
                    exact ⟨by rw [HE.out]; rfl, bw5⟩
                  · have HE : Hid (L.ask ss dd.rels = L.ask ss (dd.rels.drop (q + 1))) := by show _ = _; rw [HQ.out, hAD]; simp [h1, h2]
                    have h2b : (ky == 2) = false := by simpa using h2
                    clear hAD HQ hlk
                    go_wp2_with fail
                    go_roundg (l3 - (q + 1))
                    case measure => omega
                    case rel => exact ⟨q + 1, by go_num, by omega, Nat.le_refl _, HE.out, bw5⟩
            · obtain rfl : q = l3 := by omega
              have hqq : ¬ (q : Int) < q := by omega
              have HE : Hid (nameE ss os = L.ask ss (L.rels (os.drop (k + 1)))) := by
                show _ = _
                have h1 : L.ask ss dd.rels = 0 := by
                  rw [HQ.out, List.drop_eq_nil_of_le (by omega)]
                  rfl
                rw [HA.out, HAR.out, if_pos h1]
              clear HQ HAR HA
              go_wp2_with fail
              go_roundg (l - (k + 1))
              case measure => omega
              case rel => exact ⟨k + 1, by go_num, by omega, Nat.le_refl _, HE.out, HB3.out⟩
        · obtain rfl : k = l := by omega
          have hkk : ¬ (k : Int) < k := by omega
          have HE : Hid (nameE ss os = 0) := by
            show _ = _
            rw [HA.out, List.drop_eq_nil_of_le (by omega)]
            rfl
          go_wp2
          go_ret
          exact ⟨by rw [HE.out]; rfl, HB2.out⟩
end Go.Proofs.Ytaoklmphcgigeaa
