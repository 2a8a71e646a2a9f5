/- A line of words; a line. -/
import Derived.Test.YtbkjiipelmfbjaaGreatDoorAsTake
namespace Go.Proofs.YtbkjiipelmfbjaaGreatDoor
open Go.RowKit
set_option linter.unusedVariables false
set_option linter.unusedSimpArgs false

theorem infoN : (Tryz.prog.info? 2).map (fun i => (i.zero, i.size, i.bytes)) = some (some (.int .i64 0), 1, 8) := by kernel_rfl
theorem Bx.gbO {x y : World} {b : Nat} {r : Option Nat} {vs : List Value} (h : Bx x b vs) (hg : x.grownBy y r) (hne : some b ≠ r) : Bx y b vs :=
  ⟨fun j u hu => hg.cell (h.c j u hu) hne, fun o => (hg.frozen_far ⟨b, o, none⟩ h.lt hne).trans (h.f o), Nat.lt_of_lt_of_le h.lt hg.size⟩
theorem StrV.tail {w : World} {b off : Nat} {n c : Nat} {x : X.By} {ws : List X.By} (h : StrV w (some ⟨b, off, none⟩) (n + 1) (c + 1) (x :: ws)) : StrV w (some ⟨b, off + 1, none⟩) n c ws := by
  refine ⟨by have := h.count; simpa using this, ⟨by have := h.room; omega, by have := h.room; omega⟩, fun y hy => h.small y (by simp [hy]), ?_⟩
  rcases h.cells with h0 | ⟨b', off', e, hc⟩
  · omega
  · cases e
    refine .inr ⟨b, off + 1, rfl, fun i hi => ?_⟩
    have := hc (i + 1) (by omega)
    rw [show off + 1 + i = off + (i + 1) by omega, this]
    simp
theorem put7_own {x : World} {B b : Nat} {ty : TypeId} {k n : Nat} {v : Value} {cs : List Value} {u0 u1 u2 u3 u4 u5 u6 : Value} (h : x.ownsRow B ty k v n cs) (hb : b < B) : World.ownsRow (((((((x.setCell ⟨b, 0, none⟩ (u0)).setCell ⟨b, 1, none⟩ (u1)).setCell ⟨b, 2, none⟩ (u2)).setCell ⟨b, 3, none⟩ (u3)).setCell ⟨b, 4, none⟩ (u4)).setCell ⟨b, 5, none⟩ (u5)).setCell ⟨b, 6, none⟩ (u6)) B ty k v n cs := by
  have st : ∀ {y : World} {o : Nat} {u : Value}, y.ownsRow B ty k v n cs → (y.setCell ⟨b, o, none⟩ u).ownsRow B ty k v n cs := fun h => h.kept (gb_set _ _ _) (.inr (fun e => by have := (h.lt b e).1; omega))
  exact st (st (st (st (st (st (st h))))))
theorem nums_step {l : List X.By} {k : Nat} {ns : List Int} {z : Int} (hk : k < l.length) (hz : X.num (l.getD k []) = some z) (h : X.nums l = (X.nums (l.drop k)).map (ns ++ ·)) : X.nums l = (X.nums (l.drop (k + 1))).map (ns ++ [z] ++ ·) := by
  rw [h, List.drop_eq_getElem_cons hk]
  have e : l[k] = l.getD k [] := by simp [List.getD, hk]
  rw [e, X.nums, hz, Option.bind_some, Option.map_map]
  congr 1
  funext r
  simp
theorem nums_bad {l : List X.By} {k : Nat} {ns : List Int} (hk : k < l.length) (hz : X.num (l.getD k []) = none) (h : X.nums l = (X.nums (l.drop k)).map (ns ++ ·)) : X.nums l = none := by
  rw [h, List.drop_eq_getElem_cons hk]
  have e : l[k] = l.getD k [] := by simp [List.getD, hk]
  rw [e, X.nums, hz]
  rfl
theorem nums_end {l : List X.By} {ns : List Int} (h : X.nums l = (X.nums (l.drop l.length)).map (ns ++ ·)) : X.nums l = some ns := by
  rw [h, List.drop_length]
  simp [X.nums]

set_option maxRecDepth 100000 in
set_option maxHeartbeats 8000000 in
theorem takeWords_any {w : World} {a : Option Addr} {n c : Nat} {ws : List X.By} (h : StrV w a n c ws) (hn : n ≤ 200000) (ht : Tab w) :
    Calls Tryz.prog 34 #[.slice a n c] w (TakeOut w (X.takeWords ws)) := by
  have HT : Hid _ := ht
  have hz7 := ht.hz
  clear ht
  by_cases h0 : n = 0
  · have HR : Hid (X.takeWords ws = none) := by
      show _ = _
      have := h.count
      rw [h0] at this
      rw [List.eq_nil_of_length_eq_zero this]
      rfl
    have h0' : ((n : Int) == 0) = true := by simp [h0]
    clear h h0
    go_enter Tryz.func34, Tryz.ntmps34
    go_wp2_with fail
    refine bodyPost_ret (v := .tuple #[.agg #[.int .i64 0, .string { data := #[] }, .int .i64 0, .int .i64 0, .int .i64 0, .int .i64 0, .slice none 0 0], .bool false]) (by simp [results, Tryz.results34, go_sem]) rfl ?_
    refine TakeOut.bad HR.out ?_
    repeat (first | exact bl1 _ _ | refine Below.setCell ?_ (by simp) _)
  have h0' : ((n : Int) == 0) = false := by simp [h0]
  obtain ⟨b, off, s0, rfl, d0, hs0, hz0⟩ := h.at (i := 0) (by omega)
  obtain ⟨x, ws, rfl⟩ : ∃ x r, ws = x :: r := by
    cases ws with
    | nil => have := h.count; simp at this; omega
    | cons x r => exact ⟨x, r, rfl⟩
  have hx : s0.data.toList = x := by simpa using hs0
  obtain ⟨n, rfl⟩ : ∃ m, n = m + 1 := ⟨n - 1, by omega⟩
  obtain ⟨c, rfl⟩ : ∃ m, c = m + 1 := ⟨c - 1, by have := h.room; omega⟩
  have hroom := h.room
  obtain ⟨hr1, hr2⟩ := hroom
  unfold maxLen at hr2
  have HV : Hid (StrV w (some ⟨b, off + 1, none⟩) n c ws) := h.tail
  have HCT : Hid (ws.length = n) := h.tail.count
  have HR : Hid (X.takeWords (x :: ws) = (X.nums ws).map fun l => ⟨3, s0.data.toList, 0, 0, 0, 0, l⟩) := by show _ = _; rw [hx]; rfl
  have HX0 : Hid (s0.size ≤ 200000) := hz0
  have d0' : w.cell? ⟨b, off, none⟩ = some (.string s0) := by simpa using d0
  have HD : Hid (∀ o, (w.alloc o).cell? ⟨b, off, none⟩ = some (.string s0)) := fun o => cell_thru (bl1 _ _) d0'
  have dd := HD.out
  clear h hs0 hx d0 d0' hz0 h0
  obtain ⟨is, his, is0, is1, is2⟩ := info_parts infoN
  have HZ : Hid (Bx ((w.alloc (.cells #[.int .i64 0, .string { data := #[] }, .int .i64 0, .int .i64 0, .int .i64 0, .int .i64 0, .slice none 0 0] 32)).alloc (.cells #[.int .i64 3, .string s0, .int .i64 0, .int .i64 0, .int .i64 0, .int .i64 0, .slice none 0 0] 32)) w.heap.size [.int .i64 0, .string { data := #[] }, .int .i64 0, .int .i64 0, .int .i64 0, .int .i64 0, .slice none 0 0]) := (Bx.new _ _ _).below (bl1 _ _)
  have HB0 : Hid (Bx ((w.alloc (.cells #[.int .i64 0, .string { data := #[] }, .int .i64 0, .int .i64 0, .int .i64 0, .int .i64 0, .slice none 0 0] 32)).alloc (.cells #[.int .i64 3, .string s0, .int .i64 0, .int .i64 0, .int .i64 0, .int .i64 0, .slice none 0 0] 32)) (w.heap.size + 1) [.int .i64 3, .string s0, .int .i64 0, .int .i64 0, .int .i64 0, .int .i64 0, .slice none 0 0]) := by
    show Bx _ _ _
    have := Bx.new (w.alloc (.cells #[.int .i64 0, .string { data := #[] }, .int .i64 0, .int .i64 0, .int .i64 0, .int .i64 0, .slice none 0 0] 32)) #[.int .i64 3, .string s0, .int .i64 0, .int .i64 0, .int .i64 0, .int .i64 0, .slice none 0 0] 32
    simpa using this
  have HW0 : Hid (Below w.heap.size w ((w.alloc (.cells #[.int .i64 0, .string { data := #[] }, .int .i64 0, .int .i64 0, .int .i64 0, .int .i64 0, .slice none 0 0] 32)).alloc (.cells #[.int .i64 3, .string s0, .int .i64 0, .int .i64 0, .int .i64 0, .int .i64 0, .slice none 0 0] 32))) := bl2 _ _ _
  by_cases hc0 : c = 0
  · subst hc0
    have HV : Hid (StrV w (some ⟨b, off, none⟩) n 0 ws) := ⟨HCT.out, ⟨by omega, Nat.zero_le _⟩, HV.out.small, .inl (by omega)⟩
    go_enter Tryz.func34, Tryz.ntmps34
    go_wp2_with fail
    clear dd
    go_loopg [20] n (fun rr iv wq => ∃ (k : Nat), iv = .int .i64 k ∧ k ≤ n ∧ n - k ≤ rr ∧ Hid (∃ (ns : List Int) (av : Option Addr) (cv : Nat), Bx wq (w.heap.size + 1) [.int .i64 3, .string s0, .int .i64 0, .int .i64 0, .int .i64 0, .int .i64 0, .slice av k cv] ∧ wq.ownsRow (w.heap.size + 2) 2 1 (.slice av k cv) k (iC ns) ∧ X.nums ws = (X.nums (ws.drop k)).map (ns ++ ·)) ∧ Hid (Bx wq w.heap.size [.int .i64 0, .string { data := #[] }, .int .i64 0, .int .i64 0, .int .i64 0, .int .i64 0, .slice none 0 0] ∧ Tab wq ∧ Below w.heap.size w wq ∧ w.heap.size + 2 ≤ wq.heap.size))
    case atStart => exact ⟨0, rfl, Nat.zero_le _, by omega, ⟨[], none, 0, HB0.out, own_none _ _ _, by simp⟩, ⟨HZ.out, (HT.out.alloc _).alloc _, HW0.out, by simp⟩⟩
    case round =>
      obtain ⟨k, rfl, hk, hr, HI, HJ⟩ := hrel
      obtain ⟨ns, av, cv, hbx, ho, hn2⟩ := HI.out
      have HNS : Hid (X.nums ws = (X.nums (ws.drop k)).map (ns ++ ·)) := hn2
      have HO : Hid (wr.ownsRow (w.heap.size + 2) 2 1 (.slice av k cv) k (iC ns)) := ho
      have HBX : Hid (Bx wr (w.heap.size + 1) [.int .i64 3, .string s0, .int .i64 0, .int .i64 0, .int .i64 0, .int .i64 0, .slice av k cv]) := hbx
      clear hn2 ho hbx HI
      by_cases hlt : k < n
      · exact absurd hlt (by omega)
      · obtain rfl : k = n := by omega
        have hii : ¬ (k : Int) < k := by omega
        have HN : Hid (X.takeWords (x :: ws) = some ⟨3, s0.data.toList, 0, 0, 0, 0, ns⟩) := by
          show _ = _
          rw [HR.out, nums_end (by rw [HCT.out]; exact HNS.out)]
          rfl
        have HQ := HJ.out.1
        have c0 := HQ.c 0 _ rfl; have c1 := HQ.c 1 _ rfl; have c2 := HQ.c 2 _ rfl; have c3 := HQ.c 3 _ rfl; have c4 := HQ.c 4 _ rfl; have c5 := HQ.c 5 _ rfl; have c6 := HQ.c 6 _ rfl
        have f0 := HQ.f 0; have f1 := HQ.f 1; have f2 := HQ.f 2; have f3 := HQ.f 3; have f4 := HQ.f 4; have f5 := HQ.f 5; have f6 := HQ.f 6
        have HQ2 := HBX.out
        have e0 := HQ2.c 0 _ rfl; have e1 := HQ2.c 1 _ rfl; have e2 := HQ2.c 2 _ rfl; have e3 := HQ2.c 3 _ rfl; have e4 := HQ2.c 4 _ rfl; have e5 := HQ2.c 5 _ rfl; have e6 := HQ2.c 6 _ rfl
        clear HQ HQ2
        go_wp2_with fail
        have HOF := put7_own (b := w.heap.size) (u0 := .int .i64 3) (u1 := .string s0) (u2 := .int .i64 0) (u3 := .int .i64 0) (u4 := .int .i64 0) (u5 := .int .i64 0) (u6 := .slice av k cv) HO.out (Nat.lt_succ_of_lt (Nat.lt_succ_self _))
        have HF := Bx.put7 HJ.out.1 rfl (.int .i64 3) (.string s0) (.int .i64 0) (.int .i64 0) (.int .i64 0) (.int .i64 0) (.slice av k cv)
        have HE : Below w.heap.size w (((((((wr.setCell ⟨w.heap.size, 0, none⟩ (.int .i64 3)).setCell ⟨w.heap.size, 1, none⟩ (.string s0)).setCell ⟨w.heap.size, 2, none⟩ (.int .i64 0)).setCell ⟨w.heap.size, 3, none⟩ (.int .i64 0)).setCell ⟨w.heap.size, 4, none⟩ (.int .i64 0)).setCell ⟨w.heap.size, 5, none⟩ (.int .i64 0)).setCell ⟨w.heap.size, 6, none⟩ (.slice av k cv)) := below_put7 HJ.out.2.2.1 (Nat.le_refl _)
        generalize (((((((wr.setCell ⟨w.heap.size, 0, none⟩ (.int .i64 3)).setCell ⟨w.heap.size, 1, none⟩ (.string s0)).setCell ⟨w.heap.size, 2, none⟩ (.int .i64 0)).setCell ⟨w.heap.size, 3, none⟩ (.int .i64 0)).setCell ⟨w.heap.size, 4, none⟩ (.int .i64 0)).setCell ⟨w.heap.size, 5, none⟩ (.int .i64 0)).setCell ⟨w.heap.size, 6, none⟩ (.slice av k cv)) = Wf at HF HE HOF ⊢
        have k0 := HF.c 0 _ rfl; have k1 := HF.c 1 _ rfl; have k2 := HF.c 2 _ rfl; have k3 := HF.c 3 _ rfl; have k4 := HF.c 4 _ rfl; have k5 := HF.c 5 _ rfl; have k6 := HF.c 6 _ rfl
        refine bodyPost_ret (v := .tuple #[.agg #[.int .i64 3, .string s0, .int .i64 0, .int .i64 0, .int .i64 0, .int .i64 0, .slice av k cv], .bool true]) (by simp [results, Tryz.results34, go_sem, k0, k1, k2, k3, k4, k5, k6]) rfl ?_
        exact ⟨⟨3, s0.data.toList, 0, 0, 0, 0, ns⟩, av, k, cv, true, by simp [str_eq], fun _ => HN.out, (fun h => by cases h), (by rw [len_list]; exact HX0.out), own_baseB HOF (Nat.le_add_right _ 2), HE⟩
  · skip
    go_enter Tryz.func34, Tryz.ntmps34
    go_wp2_with fail
    clear dd
    go_loopg [20] n (fun rr iv wq => ∃ (k : Nat), iv = .int .i64 k ∧ k ≤ n ∧ n - k ≤ rr ∧ Hid (∃ (ns : List Int) (av : Option Addr) (cv : Nat), Bx wq (w.heap.size + 1) [.int .i64 3, .string s0, .int .i64 0, .int .i64 0, .int .i64 0, .int .i64 0, .slice av k cv] ∧ wq.ownsRow (w.heap.size + 2) 2 1 (.slice av k cv) k (iC ns) ∧ X.nums ws = (X.nums (ws.drop k)).map (ns ++ ·)) ∧ Hid (Bx wq w.heap.size [.int .i64 0, .string { data := #[] }, .int .i64 0, .int .i64 0, .int .i64 0, .int .i64 0, .slice none 0 0] ∧ Tab wq ∧ Below w.heap.size w wq ∧ w.heap.size + 2 ≤ wq.heap.size))
    case atStart => exact ⟨0, rfl, Nat.zero_le _, by omega, ⟨[], none, 0, HB0.out, own_none _ _ _, by simp⟩, ⟨HZ.out, (HT.out.alloc _).alloc _, HW0.out, by simp⟩⟩
    case round =>
      obtain ⟨k, rfl, hk, hr, HI, HJ⟩ := hrel
      obtain ⟨ns, av, cv, hbx, ho, hn2⟩ := HI.out
      have HNS : Hid (X.nums ws = (X.nums (ws.drop k)).map (ns ++ ·)) := hn2
      have HO : Hid (wr.ownsRow (w.heap.size + 2) 2 1 (.slice av k cv) k (iC ns)) := ho
      have HBX : Hid (Bx wr (w.heap.size + 1) [.int .i64 3, .string s0, .int .i64 0, .int .i64 0, .int .i64 0, .int .i64 0, .slice av k cv]) := hbx
      clear hn2 ho hbx HI
      by_cases hlt : k < n
      · obtain ⟨b2, off2, s, hab, cw, hs, hz⟩ := (HV.out.below HJ.out.2.2.1).at hlt
        have hii : (k : Int) < n := by omega
        have hin : 0 ≤ (k : Int) := by omega
        have HS : Hid _ := hs
        have hnum := number_any s (by omega) wr HJ.out.2.1
        cases hab
        clear hs hz
        go_wp2_with fail
        refine hnum.mono ?_
        rintro e y ⟨z, ok, rfl, ⟨h1, h2⟩, hb⟩
        have HB : Hid (Below wr.heap.size wr y) := hb
        have HBX2 : Hid (Bx y (w.heap.size + 1) [.int .i64 3, .string s0, .int .i64 0, .int .i64 0, .int .i64 0, .int .i64 0, .slice av k cv]) := HBX.out.below hb
        have HJ2 : Hid (Bx y w.heap.size [.int .i64 0, .string { data := #[] }, .int .i64 0, .int .i64 0, .int .i64 0, .int .i64 0, .slice none 0 0] ∧ Tab y ∧ Below w.heap.size w y ∧ w.heap.size + 2 ≤ y.heap.size) := ⟨HJ.out.1.below hb, HJ.out.2.1.below hb, HJ.out.2.2.1.trans (hb.mono HJ.out.2.2.1.size), Nat.le_trans HJ.out.2.2.2 hb.size⟩
        clear hnum hb cw
        cases ok with
        | false =>
          have HN : Hid (X.takeWords (x :: ws) = none) := by
            show _ = _
            rw [HR.out, nums_bad (by rw [HCT.out]; exact hlt) (by rw [← HS.out]; exact h2 rfl) HNS.out]
            rfl
          have HQ := HJ2.out.1
          have c0 := HQ.c 0 _ rfl; have c1 := HQ.c 1 _ rfl; have c2 := HQ.c 2 _ rfl; have c3 := HQ.c 3 _ rfl; have c4 := HQ.c 4 _ rfl; have c5 := HQ.c 5 _ rfl; have c6 := HQ.c 6 _ rfl
          have f0 := HQ.f 0; have f1 := HQ.f 1; have f2 := HQ.f 2; have f3 := HQ.f 3; have f4 := HQ.f 4; have f5 := HQ.f 5; have f6 := HQ.f 6
          clear HQ h1 h2
          go_wp2_with fail
          have HF := Bx.put7 HJ2.out.1 rfl (.int .i64 0) (.string { data := #[] }) (.int .i64 0) (.int .i64 0) (.int .i64 0) (.int .i64 0) (.slice none 0 0)
          have HE : Below w.heap.size w (((((((y.setCell ⟨w.heap.size, 0, none⟩ (.int .i64 0)).setCell ⟨w.heap.size, 1, none⟩ (.string { data := #[] })).setCell ⟨w.heap.size, 2, none⟩ (.int .i64 0)).setCell ⟨w.heap.size, 3, none⟩ (.int .i64 0)).setCell ⟨w.heap.size, 4, none⟩ (.int .i64 0)).setCell ⟨w.heap.size, 5, none⟩ (.int .i64 0)).setCell ⟨w.heap.size, 6, none⟩ (.slice none 0 0)) := below_put7 HJ2.out.2.2.1 (Nat.le_refl _)
          generalize (((((((y.setCell ⟨w.heap.size, 0, none⟩ (.int .i64 0)).setCell ⟨w.heap.size, 1, none⟩ (.string { data := #[] })).setCell ⟨w.heap.size, 2, none⟩ (.int .i64 0)).setCell ⟨w.heap.size, 3, none⟩ (.int .i64 0)).setCell ⟨w.heap.size, 4, none⟩ (.int .i64 0)).setCell ⟨w.heap.size, 5, none⟩ (.int .i64 0)).setCell ⟨w.heap.size, 6, none⟩ (.slice none 0 0)) = Wf at HF HE ⊢
          have k0 := HF.c 0 _ rfl; have k1 := HF.c 1 _ rfl; have k2 := HF.c 2 _ rfl; have k3 := HF.c 3 _ rfl; have k4 := HF.c 4 _ rfl; have k5 := HF.c 5 _ rfl; have k6 := HF.c 6 _ rfl
          refine bodyPost_ret (v := .tuple #[.agg #[.int .i64 0, .string { data := #[] }, .int .i64 0, .int .i64 0, .int .i64 0, .int .i64 0, .slice none 0 0], .bool false]) (by simp [results, Tryz.results34, go_sem, k0, k1, k2, k3, k4, k5, k6]) rfl ?_
          exact TakeOut.bad HN.out HE
        | true =>
          have HNX : Hid (X.nums ws = (X.nums (ws.drop (k + 1))).map (ns ++ [z] ++ ·)) := nums_step (by rw [HCT.out]; exact hlt) (by rw [← HS.out]; exact h1 rfl) HNS.out
          have HO2 : Hid ((y.alloc (.cells #[.int .i64 z] 2)).ownsRow (w.heap.size + 2) 2 1 (.slice av k cv) k (iC ns)) := own_thru HO.out (HB.out.alloc HB.out.size _)
          have HNC : Hid (∀ j u, ([.int .i64 z] : List Value)[j]? = some u → (y.alloc (.cells #[.int .i64 z] 2)).cell? ((⟨y.heap.size, 0, none⟩ : Addr).add j) = some u) := fun j u hu => by rw [Addr.add_lit, Nat.zero_add]; exact row_cell (by simpa using hu)
          have HSZ : Hid (w.heap.size + 2 ≤ (y.alloc (.cells #[.int .i64 z] 2)).heap.size) := by show _ ≤ _; have := HJ2.out.2.2.2; simp; omega
          have HBX3 : Hid (Bx (y.alloc (.cells #[.int .i64 z] 2)) (w.heap.size + 1) [.int .i64 3, .string s0, .int .i64 0, .int .i64 0, .int .i64 0, .int .i64 0, .slice av k cv]) := HBX2.out.below (bl1 _ _)
          have g6 := HBX2.out.c 6 _ rfl
          have hbl := HBX2.out.lt
          have hnb : some (w.heap.size + 1) ≠ (Value.slice av k cv).ownBlock := fun e => by have := (HO2.out.lt _ e.symm).1; omega
          have hnb0 : some w.heap.size ≠ (Value.slice av k cv).ownBlock := fun e => by have := (HO2.out.lt _ e.symm).1; omega
          have HNB : Hid _ := hnb
          have HNB0 : Hid _ := hnb0
          clear h1 h2 hnb hnb0
          go_wp2_with (first | (at_builtin; refine wpList_append_lies _ rfl _ _ 30 rfl (w.heap.size + 2) 2 is _ 1 8 Tryz.underlying30 his is0 is1 is2 rfl (by decide) (.slice av k cv) k _ rfl HO2.out ⟨y.heap.size, 0, none⟩ 1 1 [.int .i64 z] rfl rfl HNC.out (by intro u hu; simp at hu; subst hu; rfl) (by decide) (by unfold maxLen; omega) (by omega) HSZ.out (y.heap.size + 1) (by simp) ?_; intro x1 cp Y6 ho6 hg6 hat6 hlt6; have HO6 : Hid (Y6.ownsRow (w.heap.size + 2) 2 1 (.slice (some ⟨x1, 0, none⟩) (k + 1) cp) (k + 1) (iC ns ++ [.int .i64 z])) := ho6; have HG6 : Hid _ := hg6; have HBX6 : Hid _ := HBX3.out.gbO hg6 HNB.out; have z6 := HBX6.out.c 6 _ rfl; have w6 := HBX6.out.f 6; have hb6 := HBX6.out.lt; clear ho6 hg6 hat6 hlt6 g6 hbl) | fail)
          go_roundg (n - (k + 1))
          case measure => omega
          case rel =>
            have hg := HG6.out
            have hB7 : Below w.heap.size w Y6 := below_grownB (HJ2.out.2.2.1.alloc HJ2.out.2.2.1.size _) HO2.out hg HSZ.out (by omega)
            refine ⟨k + 1, by go_num, by omega, Nat.le_refl _, ⟨ns ++ [z], some ⟨x1, 0, none⟩, cp, HBX6.out.put 6 (by simp) _, ?_, HNX.out⟩, ⟨?_, ?_, hB7.setCell (by simp) _, ?_⟩⟩
            · have := HO6.out.kept (gb_set Y6 ⟨w.heap.size + 1, 6, none⟩ (.slice (some ⟨x1, 0, none⟩) (k + 1) cp)) (.inr (fun e => by have := (HO6.out.lt (w.heap.size + 1) e).1; omega))
              unfold iC at this ⊢
              rw [List.map_append]
              exact this
            · exact (((HJ2.out.1.below (bl1 _ _)).gbO hg HNB0.out)).gb (gb_set _ _ _) (by simp)
            · exact ((HT.out.below hB7)).gb (gb_set _ _ _) (by simp; omega)
            · rw [World.size_setCell]
              exact Nat.le_trans HSZ.out hg.size
      · obtain rfl : k = n := by omega
        have hii : ¬ (k : Int) < k := by omega
        have HN : Hid (X.takeWords (x :: ws) = some ⟨3, s0.data.toList, 0, 0, 0, 0, ns⟩) := by
          show _ = _
          rw [HR.out, nums_end (by rw [HCT.out]; exact HNS.out)]
          rfl
        have HQ := HJ.out.1
        have c0 := HQ.c 0 _ rfl; have c1 := HQ.c 1 _ rfl; have c2 := HQ.c 2 _ rfl; have c3 := HQ.c 3 _ rfl; have c4 := HQ.c 4 _ rfl; have c5 := HQ.c 5 _ rfl; have c6 := HQ.c 6 _ rfl
        have f0 := HQ.f 0; have f1 := HQ.f 1; have f2 := HQ.f 2; have f3 := HQ.f 3; have f4 := HQ.f 4; have f5 := HQ.f 5; have f6 := HQ.f 6
        have HQ2 := HBX.out
        have e0 := HQ2.c 0 _ rfl; have e1 := HQ2.c 1 _ rfl; have e2 := HQ2.c 2 _ rfl; have e3 := HQ2.c 3 _ rfl; have e4 := HQ2.c 4 _ rfl; have e5 := HQ2.c 5 _ rfl; have e6 := HQ2.c 6 _ rfl
        clear HQ HQ2
        go_wp2_with fail
        have HOF := put7_own (b := w.heap.size) (u0 := .int .i64 3) (u1 := .string s0) (u2 := .int .i64 0) (u3 := .int .i64 0) (u4 := .int .i64 0) (u5 := .int .i64 0) (u6 := .slice av k cv) HO.out (Nat.lt_succ_of_lt (Nat.lt_succ_self _))
        have HF := Bx.put7 HJ.out.1 rfl (.int .i64 3) (.string s0) (.int .i64 0) (.int .i64 0) (.int .i64 0) (.int .i64 0) (.slice av k cv)
        have HE : Below w.heap.size w (((((((wr.setCell ⟨w.heap.size, 0, none⟩ (.int .i64 3)).setCell ⟨w.heap.size, 1, none⟩ (.string s0)).setCell ⟨w.heap.size, 2, none⟩ (.int .i64 0)).setCell ⟨w.heap.size, 3, none⟩ (.int .i64 0)).setCell ⟨w.heap.size, 4, none⟩ (.int .i64 0)).setCell ⟨w.heap.size, 5, none⟩ (.int .i64 0)).setCell ⟨w.heap.size, 6, none⟩ (.slice av k cv)) := below_put7 HJ.out.2.2.1 (Nat.le_refl _)
        generalize (((((((wr.setCell ⟨w.heap.size, 0, none⟩ (.int .i64 3)).setCell ⟨w.heap.size, 1, none⟩ (.string s0)).setCell ⟨w.heap.size, 2, none⟩ (.int .i64 0)).setCell ⟨w.heap.size, 3, none⟩ (.int .i64 0)).setCell ⟨w.heap.size, 4, none⟩ (.int .i64 0)).setCell ⟨w.heap.size, 5, none⟩ (.int .i64 0)).setCell ⟨w.heap.size, 6, none⟩ (.slice av k cv)) = Wf at HF HE HOF ⊢
        have k0 := HF.c 0 _ rfl; have k1 := HF.c 1 _ rfl; have k2 := HF.c 2 _ rfl; have k3 := HF.c 3 _ rfl; have k4 := HF.c 4 _ rfl; have k5 := HF.c 5 _ rfl; have k6 := HF.c 6 _ rfl
        refine bodyPost_ret (v := .tuple #[.agg #[.int .i64 3, .string s0, .int .i64 0, .int .i64 0, .int .i64 0, .int .i64 0, .slice av k cv], .bool true]) (by simp [results, Tryz.results34, go_sem, k0, k1, k2, k3, k4, k5, k6]) rfl ?_
        exact ⟨⟨3, s0.data.toList, 0, 0, 0, 0, ns⟩, av, k, cv, true, by simp [str_eq], fun _ => HN.out, (fun h => by cases h), (by rw [len_list]; exact HX0.out), own_baseB HOF (Nat.le_add_right _ 2), HE⟩

end Go.Proofs.YtbkjiipelmfbjaaGreatDoor
