/- The items of a text, by the document. -/
import Derived.Test.YtbkjiipelmfbjaaGreatDoorAsRefN
import Derived.Test.YtbkjiipelmfbjaaGreatDoorAsCopy
namespace Go.Proofs.YtbkjiipelmfbjaaGreatDoor
open Go.RowKit Go.Maps Go.Lib
set_option linter.unusedVariables false
set_option linter.unusedSimpArgs false

/-- What the loop has read so far: all lines ahead of fr; none ends between fr and k. -/
structure DI (S : X.By) (fr k : Nat) (tv : List (X.It × Value)) : Prop where
  le : fr ≤ k
  no : ∀ c ∈ (S.take k).drop fr, c ≠ 10
  fin : k = S.length + 1 → fr = k
  ex : ∃ pre, X.wl S = pre ++ X.wl (S.drop fr) ∧ X.reads pre = some (tv.map (·.1))
theorem DI.start (S : X.By) : DI S 0 0 [] := ⟨Nat.le_refl _, by simp, by intro h; omega, [], by simp, rfl⟩
theorem take_drop_succ {S : X.By} {fr k : Nat} {c : UInt8} (h : fr ≤ k) (hc : S[k]? = some c) : (S.take (k + 1)).drop fr = (S.take k).drop fr ++ [c] := by
  have hk : k < S.length := (List.getElem?_eq_some_iff.1 hc).1
  rw [List.take_add_one, hc, Option.toList_some, List.drop_append_of_le_length (by rw [List.length_take]; omega)]
theorem DI.step {S : X.By} {fr k : Nat} {tv : List (X.It × Value)} {c : UInt8} (h : DI S fr k tv) (hc : S[k]? = some c) (h10 : c ≠ 10) : DI S fr (k + 1) tv := by
  have hk : k < S.length := (List.getElem?_eq_some_iff.1 hc).1
  refine ⟨Nat.le_succ_of_le h.le, ?_, (fun e => by omega), h.ex⟩
  rw [take_drop_succ h.le hc]
  intro x hx
  rcases List.mem_append.1 hx with hx | hx
  · exact h.no x hx
  · simp at hx; rw [hx]; exact h10
theorem DI.line {S : X.By} {fr k : Nat} {tv : List (X.It × Value)} (h : DI S fr k tv) (he : S[k]? = some 10 ∨ k = S.length) : X.wl (S.drop fr) = some1 (X.wordsOf ((S.take k).drop fr)) ++ X.wl (S.drop (k + 1)) := by
  rcases he with he | he
  · have hk : k < S.length := (List.getElem?_eq_some_iff.1 he).1
    have e : S.drop k = 10 :: S.drop (k + 1) := by
      rw [List.drop_eq_getElem_cons hk]
      congr 1
      rw [List.getElem?_eq_getElem hk] at he
      exact Option.some.inj he
    rw [drop_mid h.le (Nat.le_of_lt hk), e, wl_line h.no]
  · subst he
    rw [List.drop_eq_nil_of_le (Nat.le_succ _), X.wl_nil, List.append_nil]
    have := h.no
    rw [List.take_length] at this ⊢
    exact wl_last this
theorem DI.skip {S : X.By} {fr k : Nat} {tv : List (X.It × Value)} (h : DI S fr k tv) (he : S[k]? = some 10 ∨ k = S.length) (hw : X.wordsOf ((S.take k).drop fr) = []) : DI S (k + 1) (k + 1) tv := by
  obtain ⟨pre, h1, h2⟩ := h.ex
  refine ⟨Nat.le_refl _, ?_, (fun _ => rfl), pre, ?_, h2⟩
  · rw [List.drop_eq_nil_of_le (by rw [List.length_take]; omega)]; simp
  · rw [h1, h.line he, hw]; simp [some1]
theorem DI.more {S : X.By} {fr k : Nat} {tv : List (X.It × Value)} (h : DI S fr k tv) (he : S[k]? = some 10 ∨ k = S.length) {ws : List X.By} (hw : X.wordsOf ((S.take k).drop fr) = ws) (hne : ws ≠ []) {t : X.It} (ht : X.read ws = some t) (v : Value) : DI S (k + 1) (k + 1) (tv ++ [(t, v)]) := by
  obtain ⟨pre, h1, h2⟩ := h.ex
  refine ⟨Nat.le_refl _, ?_, (fun _ => rfl), pre ++ [ws], ?_, ?_⟩
  · rw [List.drop_eq_nil_of_le (by rw [List.length_take]; omega)]; simp
  · rw [h1, h.line he, hw]; simp [some1, hne]
  · rw [reads_snoc h2 ht]; simp
theorem DI.bad {S : X.By} {fr k : Nat} {tv : List (X.It × Value)} (h : DI S fr k tv) (he : S[k]? = some 10 ∨ k = S.length) {ws : List X.By} (hw : X.wordsOf ((S.take k).drop fr) = ws) (hne : ws ≠ []) (ht : X.read ws = none) : X.reads (X.wl S) = none := by
  obtain ⟨pre, h1, h2⟩ := h.ex
  rw [h1, h.line he, hw]
  simp only [some1, hne, if_false]
  rw [← List.append_assoc]
  exact reads_bad ht
theorem DI.many {S : X.By} {fr k : Nat} {tv : List (X.It × Value)} (h : DI S fr k tv) (he : S[k]? = some 10 ∨ k = S.length) {ws : List X.By} (hw : X.wordsOf ((S.take k).drop fr) = ws) (hne : ws ≠ []) (hn : 20000 ≤ tv.length) : ∀ l, X.reads (X.wl S) = Option.some l → ¬ l.length ≤ 20000 := by
  obtain ⟨pre, h1, h2⟩ := h.ex
  have h3 := X.reads_length h2
  rw [List.length_map] at h3
  rw [h1, h.line he, hw]
  simp only [some1, hne, if_false]
  rw [← List.append_assoc]
  exact reads_many (by rw [List.length_append, List.length_singleton]; omega)
theorem DI.end {S : X.By} {fr k : Nat} {tv : List (X.It × Value)} (h : DI S fr k tv) (hk : k = S.length + 1) (hs : S.length ≤ 200000) (hn : tv.length ≤ 20000) : X.parse S = (tv.map (·.1), 0) := by
  obtain ⟨pre, h1, h2⟩ := h.ex
  have := h.fin hk
  rw [List.drop_eq_nil_of_le (by omega), X.wl_nil, List.append_nil] at h1
  unfold X.parse
  rw [if_neg (by omega), h1, h2]
  simp [hn]
theorem str_of_own' {w : World} {B c : Nat} {a : Option Addr} {ws : List X.By} (h : w.ownsRow B 9 1 (.slice a ws.length c) ws.length (sC ws)) (hs : ∀ x ∈ ws, x.length ≤ 200000) : StrV w a ws.length c ws := by
  rcases h.2 with ⟨e1, e2⟩ | ⟨g', cap, cur, e1, hb, hh, h1, h2, -⟩
  · injection e1 with e1 _ e3
    subst e1 e3
    exact ⟨rfl, ⟨by omega, by unfold maxLen; omega⟩, hs, .inl e2⟩
  · injection e1 with e1 _ e3
    subst e1 e3
    refine ⟨rfl, ⟨h1, h2⟩, hs, .inr ⟨_, 0, rfl, fun i hi => ?_⟩⟩
    rw [Nat.zero_add, h.cellAt i (by omega)]
    unfold sC
    rw [List.getElem?_map]
    simp [List.getD, hi]

set_option maxRecDepth 100000 in
set_option maxHeartbeats 8000000 in
theorem rparse_any (s : ByteArray) (hs : s.size ≤ maxLen) (w : World) :
    Calls Tryz.prog 6 #[.string s] w (ParseOut w (X.parse s.data.toList)) := by
  unfold maxLen at hs
  by_cases hbig : 200000 < s.size
  · have HR : Hid (X.parse s.data.toList = ([], 8)) := by show _ = _; unfold X.parse; rw [if_pos (by rw [len_list]; exact hbig)]
    go_enter Tryz.func6, Tryz.ntmps6
    go_wp2_with fail
    go_ret2
    exact ParseOut.none HR.out (Below.refl _ _)
  have hsm : s.size ≤ 200000 := by omega
  have hdec : ¬ (200000 : Int) < s.size := by omega
  obtain ⟨S, hS⟩ : ∃ S, s.data.toList = S := ⟨_, rfl⟩
  have HLN : Hid (S.length = s.size) := by show _ = _; rw [← hS]; exact len_list s
  have HGET : Hid (∀ k (hk : k < s.size), S[k]? = some s[k]) := fun k hk => by rw [← hS]; exact get_list s k hk
  have HEX : Hid (∀ a b, s.extract a b = X.str ((S.take b).drop a)) := fun a b => by rw [← hS]; exact extract_eq s a b
  rw [hS]
  obtain ⟨i2, hi2, hz20, hz21, hz22⟩ := info_parts infoIt
  clear hbig hs hS
  go_enter Tryz.func6, Tryz.ntmps6
  go_wp2_with fail
  go_loopg [4, 5, 6] (s.size + 1) (fun r lv fv iv wq => ∃ (k fr : Nat) (tv : List (X.It × Value)) (ao : Option Addr) (co : Nat), lv = .slice ao tv.length co ∧ fv = .int .i64 fr ∧ iv = .int .i64 k ∧ k ≤ s.size + 1 ∧ s.size + 1 - k ≤ r ∧ fr ≤ k ∧ tv.length ≤ 20000 ∧ Hid (DI S fr k tv) ∧ Hid (wq.ownsRow w.heap.size 32 7 (.slice ao tv.length co) tv.length (tv.flatMap itF)) ∧ Hid (ItO w.heap.size wq tv) ∧ Hid (Below w.heap.size w wq))
  case atStart => exact ⟨0, 0, [], none, 0, rfl, rfl, rfl, Nat.zero_le _, by omega, Nat.le_refl _, by simp, DI.start S, World.ownsRow_nil _ _ _ _, (fun p hp => by simp at hp : ItO w.heap.size w []), Below.refl _ _⟩
  case round =>
    obtain ⟨k, fr, tv, ao, co, rfl, rfl, rfl, hk, hr, hfk, htl, HD, HO, HI, HB⟩ := hrel
    have hin : 0 ≤ (k : Int) := by omega
    have hfn : 0 ≤ (fr : Int) := by omega
    have hfki : (fr : Int) ≤ k := by omega
    by_cases hend : k = s.size + 1
    · have hii : ¬ (k : Int) ≤ s.size := by omega
      have HR : Hid (X.parse S = (tv.map (·.1), 0)) := HD.out.end (by rw [HLN.out]; exact hend) (by rw [HLN.out]; exact hsm) htl
      go_wp2_with fail
      go_ret2
      unfold ParseOut
      rw [HR.out]
      exact ⟨tv, ao, co, rfl, rfl, HO.out, HI.out, HB.out⟩
    have hii : (k : Int) ≤ s.size := by omega
    have hks : k ≤ s.size := by omega
    have hmid : (∃ hlt : k < s.size, ((s[k].toNat : Int) != 10) = true ∧ DI S fr (k + 1) tv) ∨ ((S[k]? = some 10 ∨ k = S.length) ∧ ((k : Int) < s.size ∧ (∃ hlt : k < s.size, ((s[k].toNat : Int) != 10) = false) ∨ ¬ (k : Int) < s.size)) := by
      by_cases hlt : k < s.size
      · by_cases h10 : s[k].toNat = 10
        · refine .inr ⟨.inl ?_, .inl ⟨by omega, hlt, by simp [h10]⟩⟩
          rw [HGET.out k hlt]
          congr 1
          exact UInt8.toNat_inj.1 (by rw [h10]; rfl)
        · exact .inl ⟨hlt, by simp; omega, HD.out.step (HGET.out k hlt) (fun e => h10 (by rw [e]; rfl))⟩
      · exact .inr ⟨.inr (by rw [HLN.out]; omega), .inr (by omega)⟩
    rcases hmid with ⟨hlt, h10, hD2⟩ | ⟨he, hmid⟩
    · have HD2 : Hid _ := hD2
      have hlt' : (k : Int) < s.size := by omega
      clear hD2
      go_wp2_with fail
      go_roundg (s.size + 1 - (k + 1))
      case measure => omega
      case rel => exact ⟨k + 1, fr, tv, ao, co, rfl, rfl, by go_num, by omega, Nat.le_refl _, by omega, htl, HD2.out, HO.out, HI.out, HB.out⟩
    obtain ⟨D, hDe⟩ : ∃ D, s.extract fr k = D := ⟨_, rfl⟩
    have HDE : Hid (D.data.toList = (S.take k).drop fr) := by show _ = _; rw [← hDe, HEX.out, str_list]
    have hDs : D.size ≤ 200000 := by rw [← hDe, ByteArray.size_extract]; omega
    obtain ⟨ws, hws⟩ : ∃ ws, X.wordsOf D.data.toList = ws := ⟨_, rfl⟩
    have HWS : Hid (X.wordsOf ((S.take k).drop fr) = ws) := by show _ = _; rw [← HDE.out, hws]
    obtain ⟨hw1, hw2⟩ := words_small (l := D.data.toList) (by rw [len_list]; exact hDs)
    have hwords := rwords_any D hDs wr
    rw [hws] at hw1 hw2 hwords
    have HE : Hid _ := he
    have HW2 : Hid _ := hw2
    clear hws he hw2
    have common : ∀ {T : Prop}, T → T := fun h => h
    rcases hmid with ⟨hlt', hlt, h10⟩ | hlt'
    all_goals
      go_wp2_with fail
      refine hwords.mono ?_
      rintro e w1 ⟨a1, c1, rfl, ho1, hb1⟩
      have HB1 : Hid (Below wr.heap.size wr w1) := hb1
      have HO1 : Hid _ := ho1
      clear ho1 hb1 hwords
      cases ws with
      | nil =>
        have HD2 : Hid _ := HD.out.skip HE.out HWS.out
        go_wp2_with fail
        go_roundg (s.size + 1 - (k + 1))
        case measure => omega
        case rel => exact ⟨k + 1, k + 1, tv, ao, co, rfl, by go_num, by go_num, by omega, Nat.le_refl _, Nat.le_refl _, htl, HD2.out, own_thru HO.out HB1.out, HI.out.below HB1.out, HB.out.trans (HB1.out.mono HB.out.size)⟩
      | cons f r =>
        have HSV : Hid (StrV w1 a1 (f :: r).length c1 (f :: r)) := str_of_own' HO1.out HW2.out
        have HF : Hid (f ≠ []) := words_ne f (by rw [HWS.out]; simp : f ∈ X.wordsOf ((S.take k).drop fr))
        have hitem := ritem_any HSV.out HF.out hw1
        have hn0 : (((f :: r).length : Int) == 0) = false := by simp; omega
        generalize hN : (f :: r).length = n at *
        have HNN : Hid _ := hN
        clear hN
        go_wp2_with fail
        refine hitem.mono ?_
        rintro e w2 ⟨t, aw, lw, cw, ok, rfl, h1, h2, hnm, ho2, hb2⟩
        have HB2 : Hid (Below w1.heap.size w1 w2) := hb2
        have HO2 : Hid _ := ho2
        have HNM : Hid _ := hnm
        have HBW : Hid (Below wr.heap.size wr w2) := HB1.out.trans (HB2.out.mono HB1.out.size)
        clear ho2 hb2 hnm hitem
        cases ok with
        | false =>
          have HR : Hid (X.parse S = ([], 2)) := parse_bad (by rw [HLN.out]; exact hsm) (.inl (HD.out.bad HE.out HWS.out (by simp) (h2 rfl)))
          clear h1 h2
          go_wp2_with fail
          go_ret2
          refine ParseOut.none HR.out ?_
          exact (HB.out.trans (HBW.out.mono HB.out.size)).alloc (by have := HB.out.size; have := HBW.out.size; omega) _
        | true =>
          have hrd := h1 rfl
          by_cases hmany : 20000 ≤ tv.length
          · have HR : Hid (X.parse S = ([], 2)) := parse_bad (by rw [HLN.out]; exact hsm) (.inr (HD.out.many HE.out HWS.out (by simp) hmany))
            have hmany' : (20000 : Int) ≤ tv.length := by omega
            clear h1 h2 hrd
            go_wp2_with fail
            go_ret2
            refine ParseOut.none HR.out ?_
            exact (HB.out.trans (HBW.out.mono HB.out.size)).alloc (by have := HB.out.size; have := HBW.out.size; omega) _
          have hmany' : ¬ (20000 : Int) ≤ tv.length := by omega
          have HD2 : Hid (DI S (k + 1) (k + 1) (tv ++ [((t, Value.slice aw lw cw) : X.It × Value)])) := HD.out.more HE.out HWS.out (by simp) hrd _
          clear h1 h2 hrd
          obtain ⟨Y0, hY0⟩ : ∃ Y0, w2.alloc (.cells #[.int .i64 t.kind, .string (X.str t.name), .int .i64 t.op, .int .i64 t.a, .int .i64 t.b, .int .i64 t.n, .slice aw lw cw] 32) = Y0 := ⟨_, rfl⟩
          have f0 : Y0.cell? ⟨w2.heap.size, 0, none⟩ = some (.int .i64 t.kind) := by subst hY0; exact cell_last rfl rfl
          have f1 : Y0.cell? ⟨w2.heap.size, 1, none⟩ = some (.string (X.str t.name)) := by subst hY0; exact cell_last rfl rfl
          have f2 : Y0.cell? ⟨w2.heap.size, 2, none⟩ = some (.int .i64 t.op) := by subst hY0; exact cell_last rfl rfl
          have f3 : Y0.cell? ⟨w2.heap.size, 3, none⟩ = some (.int .i64 t.a) := by subst hY0; exact cell_last rfl rfl
          have f4 : Y0.cell? ⟨w2.heap.size, 4, none⟩ = some (.int .i64 t.b) := by subst hY0; exact cell_last rfl rfl
          have f5 : Y0.cell? ⟨w2.heap.size, 5, none⟩ = some (.int .i64 t.n) := by subst hY0; exact cell_last rfl rfl
          have f6 : Y0.cell? ⟨w2.heap.size, 6, none⟩ = some (.slice aw lw cw) := by subst hY0; exact cell_last rfl rfl
          have bY0 : Below w2.heap.size w2 Y0 := by subst hY0; exact bl1 _ _
          obtain ⟨Z, hZ⟩ : ∃ Z, Y0.alloc (.cells #[.int .i64 t.kind, .string (X.str t.name), .int .i64 t.op, .int .i64 t.a, .int .i64 t.b, .int .i64 t.n, .slice aw lw cw] 32) = Z := ⟨_, rfl⟩
          have bZ : Below Y0.heap.size Y0 Z := by subst hZ; exact bl1 _ _
          have BZ2 : Hid (Below w2.heap.size w2 Z) := bY0.trans (bZ.mono bY0.size)
          have BZ : Hid (Below wr.heap.size wr Z) := HBW.out.trans (BZ2.out.mono HBW.out.size)
          have NZ : Hid (Z.ownsRow w.heap.size 32 7 (.slice ao tv.length co) tv.length (tv.flatMap itF)) := own_thru HO.out BZ.out
          have IZ : Hid (ItO w.heap.size Z tv) := HI.out.below BZ.out
          have OZ : Hid (Z.ownsRow w.heap.size 2 1 (.slice aw lw cw) lw (iC t.words)) := own_mono (own_thru HO2.out BZ2.out) (by have := HB.out.size; have := HB1.out.size; omega)
          have HWZ : Hid (w.heap.size ≤ Z.heap.size) := by show _ ≤ _; have := HB.out.size; have := BZ.out.size; omega
          have HNC : Hid (∀ j u, (itC t (.slice aw lw cw))[j]? = some u → Z.cell? ((⟨Y0.heap.size, 0, none⟩ : Addr).add j) = some u) := by
            intro j u hu
            subst hZ
            rw [Addr.add_lit, Nat.zero_add]
            exact cell_last rfl (by simpa [itC] using hu)
          clear bZ bY0
          go_wp2_with (first | (at_builtin; refine wpList_append_lies _ rfl _ _ 23 rfl w.heap.size 32 i2 _ 7 80 Tryz.underlying23 hi2 hz20 hz21 hz22 rfl (by decide) (.slice ao tv.length co) tv.length (tv.flatMap itF) rfl NZ.out ⟨Y0.heap.size, 0, none⟩ 1 1 (itC t (.slice aw lw cw)) rfl rfl HNC.out oneIt (by decide) (by unfold maxLen; omega) (by omega) HWZ.out Z.heap.size rfl ?_; intro ga ca w3 ho3 hg3 hat3 hlt3; have HO3 : Hid _ := ho3; have HG3 : Hid _ := hg3; clear ho3 hg3 hat3) | go_in)
          have hty : ∀ b o, (Value.slice ao tv.length co).ownBlock = some b → Z.heap[b]? = some o → ∀ cs fr, o ≠ .cells cs 2 fr := fun b o hb ho cs fr e => by
            obtain ⟨-, cur, e2⟩ := own_cells NZ.out b o hb ho
            rw [e2] at e
            injection e with e3 e4
            exact absurd e4 (by decide)
          have HTY : Hid _ := hty
          have CX : Hid (w3.ownsRow w.heap.size 32 7 (.slice (some ⟨ga, 0, none⟩) (tv.length + 1) ca) (tv.length + 1) ((tv ++ [((t, Value.slice aw lw cw) : X.It × Value)]).flatMap itF)) := by
            show World.ownsRow _ _ _ _ _ _ _
            rw [List.flatMap_append]
            simp only [List.flatMap_cons, List.flatMap_nil, List.append_nil]
            exact HO3.out
          have IX : Hid (ItO w.heap.size w3 (tv ++ [((t, Value.slice aw lw cw) : X.It × Value)])) := by
            show ItO _ _ _
            have h2 : ItO w.heap.size Z (tv ++ [((t, Value.slice aw lw cw) : X.It × Value)]) := fun p hp => by
              rcases List.mem_append.1 hp with hp | hp
              · exact IZ.out p hp
              · simp at hp
                subst hp
                exact ⟨HNM.out, _, _, _, rfl, OZ.out⟩
            exact h2.kept HG3.out HTY.out
          have B4 : Hid (Below w.heap.size w w3) := by
            have hb := HB.out.trans (BZ.out.mono HB.out.size)
            exact below_own hb NZ.out HG3.out HWZ.out
          clear hty
          go_roundg (s.size + 1 - (k + 1))
          case measure => omega
          case rel => exact ⟨k + 1, k + 1, _, some ⟨ga, 0, none⟩, ca, (by rw [List.length_append]; rfl), by go_num, by go_num, by omega, Nat.le_refl _, Nat.le_refl _, (by rw [List.length_append, List.length_singleton]; omega), HD2.out, (by rw [List.length_append, List.length_singleton]; exact CX.out), IX.out, B4.out⟩

end Go.Proofs.YtbkjiipelmfbjaaGreatDoor
