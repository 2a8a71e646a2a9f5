/- The layout of all objects. -/
import Derived.Test.YtaoklmphcgigeaaLinkAdd
import Derived.Test.YtaoklmphcgigeaaLinkAsk
namespace Go.Proofs.Ytaoklmphcgigeaa
open Go.RowKit
set_option linter.unusedVariables false
set_option linter.unusedSimpArgs false

theorem LY.below {w x y : World} {b bm : Nat} {v : Value} {l : List (ObjD × Sl)} (h : LY w x b bm v l) (hb : Below x.heap.size x y) : LY w y b bm v l := by
  have hlt : b < x.heap.size := World.block_lt_of_cell? x ⟨b, 0, none⟩ h.c0
  exact ⟨h.low.trans (hb.mono h.low.size), cell_thru hb h.c0, cell_thru hb h.c1, cell_thru hb h.c2, cell_thru hb h.c3, cell_thru hb h.c4, cell_thru hb h.c5, fun o => (hb.frozen (p := ⟨b, o, none⟩) hlt).trans (h.fz o), h.nm.below hb, h.own.kept (gb_of_below hb (some x.heap.size)) (.inr fun e => by have := (h.own.lt _ e).2; omega), h.hb, h.hm, h.ne, h.vb, h.vm, h.c6e.imp fun u hu => cell_thru hb hu⟩

theorem may_sizes {o : ObjD} (h : o.may = true) : o.code.size ≤ 65536 ∧ o.data.length ≤ 4096 ∧ o.syms.length ≤ 1000 ∧ o.rels.length ≤ 8000 ∧ ∀ y ∈ o.syms, 0 ≤ y.pos ∧ y.pos ≤ 65536 := by
  unfold ObjD.may symsOk relsOk at h
  simp only [Bool.and_eq_true, decide_eq_true_eq, List.all_eq_true, List.mem_range] at h
  obtain ⟨⟨h1, h2⟩, ⟨h3, h4⟩, h5, h6⟩ := h
  refine ⟨h1, h2, h3, h5, fun y hy => ?_⟩
  obtain ⟨i, hi, rfl⟩ := List.getElem_of_mem hy
  have h7 := h4 i hi
  unfold symAt symOk at h7
  have e : o.syms.getD i noSym = o.syms[i] := by simp [List.getD, hi]
  rw [e] at h7
  simp only [Bool.and_eq_true, decide_eq_true_eq] at h7
  obtain ⟨-, -, h8, h9⟩ := h7
  unfold roomOf at h9
  refine ⟨h8, ?_⟩
  split at h9
  · omega
  · split at h9 <;> omega
theorem sizes_le : ∀ (l : List ObjD) (z : L.Sz), (∀ o ∈ l, o.may = true) → (l.foldl L.grow z).b ≤ z.b + l.length * 65536 ∧ (l.foldl L.grow z).d ≤ z.d + l.length * 4096 ∧ (l.foldl L.grow z).s ≤ z.s + l.length * 1000 ∧ (l.foldl L.grow z).t ≤ z.t + l.length * 1000
  | [], z, _ => by simp
  | o :: l, z, h => by
    obtain ⟨h1, h2, h3, h4⟩ := sizes_le l (L.grow z o) (fun q hq => h q (List.mem_cons_of_mem _ hq))
    obtain ⟨m1, m2, m3, -, -⟩ := may_sizes (h o (List.mem_cons_self ..))
    have m4 := thr_le o.syms
    have g1 : (L.grow z o).b = z.b + o.code.size := rfl
    have g2 : (L.grow z o).d = z.d + o.data.length := rfl
    have g3 : (L.grow z o).s = z.s + o.syms.length := rfl
    have g4 : (L.grow z o).t = z.t + L.thr o.syms := rfl
    simp only [List.foldl_cons, List.length_cons]
    omega
theorem ask_append (ss : List Sym) (a c : List Rel) : L.ask ss (a ++ c) = if L.ask ss a = 0 then L.ask ss c else L.ask ss a := by
  induction a with
  | nil => simp [L.ask]
  | cons r a ih =>
    simp only [List.cons_append, L.ask]
    by_cases h : L.askOne ss r = 0
    · simp [h, ih]
    · simp [h]
theorem twice_more {os : List ObjD} {k : Nat} (h : L.twice (L.syms (os.take k)) = true) : L.twice (L.syms os) = true := by
  have e : L.syms os = L.syms (os.take k) ++ L.symsFrom ((os.take k).foldl L.grow L.zero) (os.drop k) := by
    unfold L.syms
    rw [← L.symsFrom_append, List.take_append_drop]
  rw [e, L.twice_append, h]
  simp
theorem ask_rels {ss : List Sym} {os : List ObjD} {k : Nat} (hk : k < os.length) : L.ask ss (L.rels (os.drop k)) = if L.ask ss (os.getD k noObj).rels = 0 then L.ask ss (L.rels (os.drop (k + 1))) else L.ask ss (os.getD k noObj).rels := by
  rw [List.drop_eq_getElem_cons hk]
  have : os.getD k noObj = os[k] := by simp [List.getD, hk]
  rw [this]
  unfold L.rels
  rw [List.flatMap_cons, ask_append]
/-- What laying comes to. -/
def layE (os : List ObjD) : Int := if L.twice (L.syms os) = true then 5 else L.ask (L.syms os) (L.rels os)

set_option maxRecDepth 100000 in
set_option maxHeartbeats 4000000 in
theorem lay_any {w x : World} {b bm : Nat} {v : Value} {a : Option Addr} {l c : Nat} {os : List ObjD} (h : LY w x b bm v []) (hV : ObjsV w a l c os) (hn : l ≤ 16) (hmay : ∀ o ∈ os, o.may = true) :
    Calls Try.prog 21 #[.pointer (some ⟨b, 0, none⟩), .slice a l c] x fun e x' => e = .returned (.int .i64 (layE os)) ∧ Below w.heap.size w x' ∧ (layE os = 0 → ∃ v' pl, pl.map Prod.fst = os ∧ (∀ p ∈ pl, OV w p.1 p.2) ∧ LY w x' b bm v' pl) := by
  have HV : Hid _ := hV
  have HL : Hid _ := h
  have HM : Hid _ := hmay
  have hcnt := hV.count
  clear h hV hmay
  go_enter Try.func21, Try.ntmps21
  go_wp2_with fail
  go_loopg [12] l (fun r iv wq => ∃ (k : Nat), iv = .int .i64 k ∧ k ≤ l ∧ l - k ≤ r ∧ Hid (∃ v' pl, pl.map Prod.fst = os.take k ∧ (∀ p ∈ pl, OV w p.1 p.2) ∧ LY w wq b bm v' pl))
  case atStart => exact ⟨0, rfl, Nat.zero_le _, by omega, (⟨v, [], by simp, by simp, HL.out⟩ : ∃ v' pl, pl.map Prod.fst = os.take 0 ∧ (∀ p ∈ pl, OV w p.1 p.2) ∧ LY w x b bm v' pl)⟩
  case round =>
    obtain ⟨k, rfl, hk, hr, HI⟩ := hrel
    obtain ⟨v', pl, hpl, hov, hly⟩ := HI.out
    have hlow := hly.low
    by_cases hlt : k < l
    · rcases HV.out.cells with h0 | ⟨ob, off, hA, hc⟩
      · omega
      obtain ⟨s, hC, hO⟩ := hc k hlt
      have hg : os.getD k noObj = os[k]'(by omega) := by simp [List.getD, show k < os.length by omega]
      have hmd : (os.getD k noObj).may = true := HM.out _ (by rw [hg]; exact List.getElem_mem _)
      have HTK : Hid (os.take (k + 1) = os.take k ++ [os.getD k noObj]) := by show _ = _; rw [hg]; exact List.take_succ_eq_append_getElem (by omega)
      obtain ⟨d, hd⟩ : ∃ d, os.getD k noObj = d := ⟨_, rfl⟩
      rw [hd] at hC hO hmd HTK
      have hpn : pl.length = k := by have := congrArg List.length hpl; rw [List.length_map, List.length_take] at this; omega
      have HSZ : Hid _ := sizes_le (pl.map Prod.fst) L.zero (fun o ho => HM.out o (List.mem_of_mem_take (by rw [hpl] at ho; exact ho)))
      have HMD : Hid _ := may_sizes hmd
      obtain ⟨k0, k1, k2, k3⟩ := hC
      have hbl : ob < w.heap.size := World.block_lt_of_cell? w ⟨ob, off + k * 4, none⟩ k0
      have k0 := (hlow.cell (p := ⟨ob, off + k * 4, none⟩) hbl).trans k0
      have k1 := (hlow.cell (p := ⟨ob, off + k * 4 + 1, none⟩) hbl).trans k1
      have k2 := (hlow.cell (p := ⟨ob, off + k * 4 + 2, none⟩) hbl).trans k2
      have k3 := (hlow.cell (p := ⟨ob, off + k * 4 + 3, none⟩) hbl).trans k3
      have HLY : Hid _ := hly
      have HPL : Hid _ := hpl
      have HOV : Hid _ := hov
      have HO : Hid _ := hO
      subst hA
      have hin : 0 ≤ (k : Int) := by omega
      have hii : (k : Int) < l := by omega
      clear hc hg hd hmd hly hpl hov hO
      have HZ : Hid ((L.sizes (pl.map Prod.fst)).b ≤ 1048576 ∧ (L.sizes (pl.map Prod.fst)).d ≤ 1048576 ∧ (L.sizes (pl.map Prod.fst)).s ≤ 1048576 ∧ (L.sizes (pl.map Prod.fst)).t ≤ 1048576) := by
        have h1 := HSZ.out
        rw [List.length_map, hpn] at h1
        have z1 : L.zero.b = 0 := rfl
        have z2 : L.zero.d = 0 := rfl
        have z3 : L.zero.s = 0 := rfl
        have z4 : L.zero.t = 0 := rfl
        unfold L.sizes
        show _ ∧ _
        omega
      have HSL : Hid (d.code.size ≤ 65536 ∧ s.l1 ≤ 65536 ∧ s.l2 ≤ 65536) := by
        have h1 := HMD.out
        have h2 := HO.out.ints.count
        have h3 := HO.out.syms.count
        show _ ∧ _
        omega
      have HSN : Hid (L.syms (pl.map Prod.fst ++ [d]) = L.syms (os.take (k + 1))) := by show _ = _; rw [HPL.out, HTK.out]
      go_wp2_with fail
      refine (addO_any (HLY.out.below (bl_one _ _)) HO.out (by omega) HZ.out HSL.out HMD.out.2.2.2.2).mono ?_
      rintro e y (⟨ht, rfl, hb⟩ | ⟨ht, rfl, v2, hly2⟩)
      · have HE : Hid (layE os = 5) := by
          show _ = _
          unfold layE
          rw [HSN.out] at ht
          rw [if_pos (twice_more ht)]
        clear HSN HTK HPL HLY HSZ HZ ht
        go_wp2
        go_ret
        exact ⟨by rw [HE.out]; rfl, hb, fun h0 => by rw [HE.out] at h0; cases h0⟩
      · have HR : Hid (∃ v' pl, pl.map Prod.fst = os.take (k + 1) ∧ (∀ p ∈ pl, OV w p.1 p.2) ∧ LY w y b bm v' pl) := ⟨v2, pl ++ [(d, s)], by rw [List.map_append, HPL.out, HTK.out]; rfl, fun p hp => by
            rcases List.mem_append.1 hp with h1 | h1
            · exact HOV.out p h1
            · simp at h1; subst h1; exact HO.out, hly2⟩
        clear HSN HTK HPL HLY HSZ HZ ht hly2 HOV HI
        go_wp2_with fail
        go_roundg (l - (k + 1))
        case measure => omega
        case rel => exact ⟨k + 1, by go_num, by omega, Nat.le_refl _, HR.out⟩
    · obtain rfl : k = l := by omega
      have hfull : os.take k = os := List.take_of_length_le (by omega)
      rw [hfull] at hpl
      have hnd : L.twice (L.syms os) = false := by rw [← hpl]; exact hly.nm.uniq
      have HE0 : Hid (layE os = L.ask (L.syms os) (L.rels os)) := by show _ = _; unfold layE; rw [hnd]; rfl
      have HLY : Hid _ := hly
      have HPL : Hid _ := hpl
      have HOV : Hid _ := hov
      have hii : ¬ (k : Int) < k := by omega
      clear hly hpl hov hnd hfull HI HL
      generalize wr = W at *
      go_wp2_with fail
      go_loopg [23] k (fun r iv wq => ∃ (i : Nat), iv = .int .i64 i ∧ i ≤ k ∧ k - i ≤ r ∧ Hid (layE os = L.ask (L.syms os) (L.rels (os.drop i))) ∧ Hid (LY w wq b bm v' pl))
      case atStart => exact ⟨0, rfl, Nat.zero_le _, by omega, HE0.out, HLY.out⟩
      case round =>
        obtain ⟨i, rfl, hi, hri, HA, HL2⟩ := hrel
        have hlow2 := HL2.out.low
        by_cases hlti : i < k
        · rcases HV.out.cells with h0 | ⟨ob, off, hA, hc⟩
          · omega
          obtain ⟨s, hC, hO⟩ := hc i hlti
          have hg : os.getD i noObj = os[i]'(by omega) := by simp [List.getD, show i < os.length by omega]
          have hmd : (os.getD i noObj).may = true := HM.out _ (by rw [hg]; exact List.getElem_mem _)
          have HAR : Hid _ := ask_rels (ss := L.syms os) (os := os) (k := i) (by omega)
          obtain ⟨d, hd⟩ : ∃ d, os.getD i noObj = d := ⟨_, rfl⟩
          rw [hd] at hC hO hmd HAR
          obtain ⟨k0, k1, k2, k3⟩ := hC
          have hbl : ob < w.heap.size := World.block_lt_of_cell? w ⟨ob, off + i * 4, none⟩ k0
          have k0 := (hlow2.cell (p := ⟨ob, off + i * 4, none⟩) hbl).trans k0
          have k1 := (hlow2.cell (p := ⟨ob, off + i * 4 + 1, none⟩) hbl).trans k1
          have k2 := (hlow2.cell (p := ⟨ob, off + i * 4 + 2, none⟩) hbl).trans k2
          have k3 := (hlow2.cell (p := ⟨ob, off + i * 4 + 3, none⟩) hbl).trans k3
          have HO : Hid _ := hO
          have hrl : s.l3 ≤ 8000 := by have := (may_sizes hmd).2.2.2.1; have h3 := hO.rels.count; omega
          have HSS : Hid (∀ y, LY w y b bm v' pl → NM y bm (L.syms os)) := fun y hy => by have := hy.nm; rw [HPL.out] at this; exact this
          subst hA
          have hin2 : 0 ≤ (i : Int) := by omega
          have hii2 : (i : Int) < k := by omega
          clear hc hg hd hmd hO
          go_wp2_with fail
          refine (ask_any (cell_thru (bl_one _ _) HL2.out.c5) (HSS.out _ (HL2.out.below (bl_one _ _))) ((HO.out.rels.below hlow2).below (bl_one _ _)) (by omega)).mono ?_
          rintro e y ⟨rfl, hb⟩
          have HL3 : Hid (LY w y b bm v' pl) := (HL2.out.below (bl_one _ _)).below hb
          obtain ⟨rr, hrr⟩ : ∃ rr, L.ask (L.syms os) d.rels = rr := ⟨_, rfl⟩
          rw [hrr]
          rw [hrr] at HAR
          by_cases h0 : rr = 0
          · have HE : Hid (layE os = L.ask (L.syms os) (L.rels (os.drop (i + 1)))) := by show _ = _; rw [HA.out, HAR.out, if_pos h0]
            subst h0
            clear HAR HA hrr HSS HE0
            go_wp2_with fail
            go_roundg (k - (i + 1))
            case measure => omega
            case rel => exact ⟨i + 1, by go_num, by omega, Nat.le_refl _, HE.out, HL3.out⟩
          · have HE : Hid (layE os = rr) := by show _ = _; rw [HA.out, HAR.out, if_neg h0]
            have hq : (rr == 0) = false := by simpa using h0
            clear HAR HA hrr HSS HE0
            go_wp2
            go_ret
            exact ⟨by rw [HE.out]; rfl, HL3.out.low, fun h1 => by rw [HE.out] at h1; exact absurd h1 h0⟩
        · obtain rfl : i = k := by omega
          have hii2 : ¬ (i : Int) < i := by omega
          have HF : Hid (layE os = 0) := by
            have := HA.out
            rw [show os.drop i = [] from by rw [← hcnt]; simp] at this
            exact this
          go_wp2
          go_ret
          exact ⟨by rw [HF.out]; rfl, hlow2, fun _ => ⟨v', pl, HPL.out, fun a b hp => HOV.out (a, b) hp, HL2.out⟩⟩
end Go.Proofs.Ytaoklmphcgigeaa
