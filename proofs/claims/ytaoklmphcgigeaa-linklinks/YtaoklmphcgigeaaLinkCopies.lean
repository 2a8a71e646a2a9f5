/- Objects of one's own. -/
import Derived.Test.YtaoklmphcgigeaaLinkCopy
import Derived.Test.YtaoklmphcgigeaaLinkMoreW
namespace Go.Proofs.Ytaoklmphcgigeaa
open Go.RowKit Go.Lib
set_option linter.unusedVariables false
set_option linter.unusedSimpArgs false

def ownRows (v : Value) (pl : List (ObjD × Sl)) : List Row := ⟨40, 4, v, pl.length, pl.flatMap objC⟩ :: pl.flatMap objRows
theorem flatR {α β : Type} (f : α → List β) (m : Nat) (hm : ∀ x, (f x).length = m) : ∀ (l : List α) (i j : Nat) (x : α), l[i]? = some x → j < m → (l.flatMap f)[i * m + j]? = (f x)[j]?
  | [], i, j, x, h, _ => by simp at h
  | y :: l, 0, j, x, h, hj => by
    simp at h
    subst h
    rw [List.flatMap_cons, Nat.zero_mul, Nat.zero_add, List.getElem?_append_left (by rw [hm]; exact hj)]
  | y :: l, i + 1, j, x, h, hj => by
    rw [List.flatMap_cons, List.getElem?_append_right (by rw [hm, Nat.succ_mul]; omega), hm, show (i + 1) * m + j - m = i * m + j by rw [Nat.succ_mul]; omega]
    exact flatR f m hm l i j x (by simpa using h) hj
/-- What was made since is apart from what was there. -/
theorem BS.join {w x y : World} {rs qs : List Row} (h : BS w x rs []) (k : BS x y qs []) : BS w y (rs ++ qs) [] := by
  have h' := h.below k.low
  have at' : ∀ i r, (rs ++ qs)[i]? = some r → (i < rs.length ∧ rs[i]? = some r) ∨ (rs.length ≤ i ∧ qs[i - rs.length]? = some r) := fun i r hr => by
    by_cases hi : i < rs.length
    · rw [List.getElem?_append_left hi] at hr
      exact .inl ⟨hi, hr⟩
    · rw [List.getElem?_append_right (by omega)] at hr
      exact .inr ⟨by omega, hr⟩
  refine { low := h'.low, own := fun i r hr => ?_, dis := fun i j r q hr hq hij b hb => ?_, box := by simp, far := by simp, nd := by simp }
  · rcases at' i r hr with ⟨-, h1⟩ | ⟨-, h1⟩
    · exact h'.own i r h1
    · exact own_base (k.own _ r h1) h.low.size
  · rcases at' i r hr with ⟨l1, h1⟩ | ⟨l1, h1⟩
    · rcases at' j q hq with ⟨l2, h2⟩ | ⟨l2, h2⟩
      · exact h.dis i j r q h1 h2 hij b hb
      · intro e
        have e1 := ((h.own i r h1).lt b hb).2
        have e2 := ((k.own _ q h2).lt b e).1
        omega
    · rcases at' j q hq with ⟨l2, h2⟩ | ⟨l2, h2⟩
      · intro e
        have e1 := ((h.own j q h2).lt b e).2
        have e2 := ((k.own _ r h1).lt b hb).1
        omega
      · exact k.dis _ _ r q h1 h2 (by omega) b hb
/-- What fits. -/
structure FitO (o : ObjD) : Prop where
  code : o.code.size ≤ maxLen
  data : ∀ n ∈ o.data, (Lit.int .i64 n).wf = true
  syms : ∀ s ∈ o.syms, s.name.size ≤ maxLen ∧ (Lit.int .i64 s.kind).wf = true ∧ (Lit.int .i64 s.pos).wf = true
  rels : ∀ r ∈ o.rels, r.name.size ≤ maxLen ∧ (Lit.int .i64 r.kind).wf = true ∧ (Lit.int .i64 r.pos).wf = true ∧ (Lit.int .i64 r.add).wf = true
theorem OV.fit {w : World} {o : ObjD} {s : Sl} (h : OV w o s) : FitO o := ⟨h.code, h.ints.fits, h.syms.fits, h.rels.fits⟩
theorem BS.obj {w x : World} {v : Value} {pl : List (ObjD × Sl)} {bs : List (Nat × List Value)} (h : BS w x (ownRows v pl) bs) {i : Nat} {p : ObjD × Sl} (hi : pl[i]? = some p) (j : Nat) (r : Row) (hj : j < 3) (hr : (objRows p)[j]? = some r) : (ownRows v pl)[i * 3 + j + 1]? = some r := by
  unfold ownRows
  rw [List.getElem?_cons_succ, flatR objRows 3 (fun _ => rfl) pl i j p hi hj]
  exact hr
theorem own_ov {w x : World} {v : Value} {pl : List (ObjD × Sl)} {bs : List (Nat × List Value)} (h : BS w x (ownRows v pl) bs) {i : Nat} {p : ObjD × Sl} (hi : pl[i]? = some p) (hf : FitO p.1) : OV x p.1 p.2 := by
  have h1 := h.own _ _ (h.obj hi 0 _ (by decide) rfl)
  have h2 := h.own _ _ (h.obj hi 1 _ (by decide) rfl)
  have h3 := h.own _ _ (h.obj hi 2 _ (by decide) rfl)
  have c1 := own_cap h1
  have c2 := own_cap h2
  have c3 := own_cap h3
  simp only [rowI, rowS, rowR] at h1 h2 h3 c1 c2 c3
  refine ⟨hf.code, ?_, ?_, ?_⟩
  · rw [c1.1]; rw [c1.1] at h1; exact intsV_own hf.data rfl h1
  · rw [c2.1]; rw [c2.1] at h2; exact symsV_own hf.syms rfl h2
  · rw [c3.1]; rw [c3.1] at h3; exact relsV_own hf.rels rfl h3
theorem own_objs {w x : World} {v : Value} {pl : List (ObjD × Sl)} {bs : List (Nat × List Value)} (h : BS w x (ownRows v pl) bs) (hf : ∀ p ∈ pl, FitO p.1) (hn : pl.length ≤ maxLen) : ∃ a c, v = .slice a pl.length c ∧ ObjsP x a pl.length c pl :=
  objs_own (h.own 0 _ rfl) rfl hn (fun p hp => by
    obtain ⟨i, hi, rfl⟩ := List.getElem_of_mem hp
    exact own_ov h (i := i) (by simp [hi]) (hf _ hp))

set_option maxRecDepth 100000 in
set_option maxHeartbeats 8000000 in
theorem copies_any {w : World} {a : Option Addr} {l c : Nat} {os : List ObjD} (h : ObjsV w a l c os) (hl : l ≤ 20) (hL : ∀ o ∈ os, Len 140737488355328 o) :
    Calls Try.prog 11 #[.slice a l c] w fun e w' => ∃ v pl, e = .returned v ∧ pl.map Prod.fst = os ∧ BS w w' (ownRows v pl) [] := by
  obtain ⟨i4, hi4, hz40, hz41, hz42⟩ := info_partsL infoO
  have HV : Hid _ := h
  have HL : Hid _ := hL
  have hcnt := h.count
  clear h hL
  go_enter Try.func11, Try.ntmps11
  go_wp2_with fail
  go_loopg [3, 4] l (fun r ov iv wq => ∃ (k : Nat) (e1 : Option Addr) (f1 : Nat), iv = .int .i64 k ∧ ov = .slice e1 k f1 ∧ k ≤ l ∧ l - k ≤ r ∧ Hid (∃ pl, pl.map Prod.fst = os.take k ∧ BS w wq (ownRows (.slice e1 k f1) pl) []))
  case atStart => exact ⟨0, none, 0, rfl, rfl, Nat.zero_le _, by omega, (⟨[], rfl, (BS.start w).nil 40 4⟩ : ∃ pl, pl.map Prod.fst = os.take 0 ∧ BS w w (ownRows (.slice none 0 0) pl) [])⟩
  case round =>
    obtain ⟨k, e1, f1, rfl, rfl, hk, hr, HI⟩ := hrel
    obtain ⟨pl, hpl, hbs⟩ := HI.out
    have hlow := hbs.low
    have hpn : pl.length = k := by have := congrArg List.length hpl; rw [List.length_map, List.length_take] at this; omega
    by_cases hlt : k < l
    · rcases HV.out.cells with h0 | ⟨ob, off, hA, hc⟩
      · omega
      obtain ⟨s, hC, hO⟩ := hc k hlt
      obtain ⟨d, hd⟩ : ∃ d, os[k]? = some d := ⟨os[k]'(by omega), by simp⟩
      have hg : os.getD k noObj = d := by simp [List.getD, hd]
      rw [hg] at hC hO
      have hC := hC.below hlow
      have hO := hO.below hlow
      have hLd := HL.out d (List.mem_of_getElem? hd)
      have HTK : Hid (os.take (k + 1) = os.take k ++ [d]) := by
        obtain ⟨hlt', e⟩ := List.getElem?_eq_some_iff.1 hd
        show _ = _
        rw [List.take_succ_eq_append_getElem hlt', e]
      obtain ⟨k0, k1, k2, k3⟩ := hC
      obtain ⟨a1, l1, c1, a2, l2, c2, a3, l3, c3⟩ := s
      simp only at k1 k2 k3
      subst hA
      have hin : 0 ≤ (k : Int) := by omega
      have hii : (k : Int) < l := by omega
      have HO : Hid _ := hO
      have HLD : Hid (Len 140737488355328 d) := hLd
      have HBS : Hid (BS w wr (ownRows (.slice e1 k f1) pl) []) := hbs
      have HPL : Hid _ := hpl
      clear hc hg hd hO hLd hbs hpl HI hlow
      go_wp2_with fail
      refine (copyB_any HO.out HLD.out).mono ?_
      rintro e x2 ⟨s', rfl, hb2⟩
      have HB2 : Hid (BS w x2 (ownRows (.slice e1 k f1) pl ++ objRows (d, s')) []) := HBS.out.join hb2
      clear hb2 k0 k1 k2 k3 HBS
      obtain ⟨b1, m1, d1, b2, m2, d2, b3, m3, d3⟩ := s'
      unfold Sl.val
      simp only
      obtain ⟨Y1, hY1⟩ : ∃ Y, x2.alloc (.cells #[.string d.code, .slice b1 m1 d1, .slice b2 m2 d2, .slice b3 m3 d3] 40) = Y := ⟨_, rfl⟩
      have bY1 : Below x2.heap.size x2 Y1 := by subst hY1; exact bl_one _ _
      have g0 : Y1.cell? ⟨x2.heap.size, 0, none⟩ = some (.string d.code) := by subst hY1; exact cell_last rfl rfl
      have g1 : Y1.cell? ⟨x2.heap.size, 1, none⟩ = some (.slice b1 m1 d1) := by subst hY1; exact cell_last rfl rfl
      have g2 : Y1.cell? ⟨x2.heap.size, 2, none⟩ = some (.slice b2 m2 d2) := by subst hY1; exact cell_last rfl rfl
      have g3 : Y1.cell? ⟨x2.heap.size, 3, none⟩ = some (.slice b3 m3 d3) := by subst hY1; exact cell_last rfl rfl
      obtain ⟨Y2, hY2⟩ : ∃ Y, Y1.alloc (.cells #[.string d.code, .slice b1 m1 d1, .slice b2 m2 d2, .slice b3 m3 d3] 40) = Y := ⟨_, rfl⟩
      have bY2 : Below Y1.heap.size Y1 Y2 := by subst hY2; exact bl_one _ _
      have b12 : Below x2.heap.size x2 Y2 := bY1.trans (bY2.mono bY1.size)
      have HB3 : Hid (BS w Y2 (ownRows (.slice e1 k f1) pl ++ objRows (d, ⟨b1, m1, d1, b2, m2, d2, b3, m3, d3⟩)) []) := HB2.out.below b12
      have HNC : Hid (∀ ad, some (⟨Y1.heap.size, 0, none⟩ : Addr) = some ad → ∀ j u, (objC (d, ⟨b1, m1, d1, b2, m2, d2, b3, m3, d3⟩))[j]? = some u → Y2.cell? (ad.add j) = some u) := fun ad e j u hu => by
        cases e
        rw [Addr.add_lit, Nat.zero_add]
        subst hY2
        exact cell_last rfl (by simpa [objC] using hu)
      have HOW : Hid (Y2.ownsRow w.heap.size 40 4 (.slice e1 k f1) k (pl.flatMap objC)) := by
        have := HB3.out.own 0 _ rfl
        simp only [hpn] at this
        exact this
      have hwY := HB3.out.low.size
      go_wp2_with (first | (at_builtin; refine wpList_append_more rfl _ _ 22 rfl w.heap.size 40 i4 _ 4 88 Try.underlying22 hi4 hz40 hz41 hz42 rfl (by decide) (v := .slice e1 k f1) rfl HOW.out hwY (a := some ⟨Y1.heap.size, 0, none⟩) (l := 1) (c := 1) (cs := objC (d, ⟨b1, m1, d1, b2, m2, d2, b3, m3, d3⟩)) rfl (by intro e; cases e) rfl HNC.out (by intro u hu; simp [objC] at hu; rcases hu with rfl | rfl | rfl | rfl <;> rfl) (by omega) (by omega) ?_) | go_in)
      intro v3 x3 ho3 hg3 hat3
      obtain ⟨e3, f3, rfl⟩ := own_slice ho3
      have HR : Hid (∃ pl, pl.map Prod.fst = os.take (k + 1) ∧ BS w x3 (ownRows (.slice e3 (k + 1) f3) pl) []) := by
        refine ⟨pl ++ [(d, ⟨b1, m1, d1, b2, m2, d2, b3, m3, d3⟩)], by rw [List.map_append, HPL.out, HTK.out]; rfl, ?_⟩
        have h4 := HB3.out.push (k := 0) rfl ho3 hg3 hat3
        have e : ownRows (.slice e3 (k + 1) f3) (pl ++ [(d, (⟨b1, m1, d1, b2, m2, d2, b3, m3, d3⟩ : Sl))]) = (ownRows (.slice e1 k f1) pl ++ objRows (d, ⟨b1, m1, d1, b2, m2, d2, b3, m3, d3⟩)).set 0 ⟨40, 4, .slice e3 (k + 1) f3, k + 1, pl.flatMap objC ++ objC (d, ⟨b1, m1, d1, b2, m2, d2, b3, m3, d3⟩)⟩ := by
          unfold ownRows
          simp [hpn]
        rw [e]
        exact h4
      clear HB2 HB3 HNC HOW ho3 hg3 hat3 hY1 hY2 g0 g1 g2 g3 HPL HTK
      go_wp2_with fail
      go_roundg (l - (k + 1))
      case measure => omega
      case rel => exact ⟨k + 1, _, _, by go_num, rfl, by omega, Nat.le_refl _, HR.out⟩
    · obtain rfl : k = l := by omega
      have hii : ¬ (k : Int) < k := by omega
      have HPL : Hid (pl.map Prod.fst = os) := by
        show _ = _
        rw [hpl, List.take_of_length_le (by omega)]
      have HBS : Hid (BS w wr (ownRows (.slice e1 k f1) pl) []) := hbs
      clear hpl hbs HI
      go_wp2
      go_ret
      exact ⟨_, rfl, pl, HPL.out, HBS.out⟩
end Go.Proofs.Ytaoklmphcgigeaa
