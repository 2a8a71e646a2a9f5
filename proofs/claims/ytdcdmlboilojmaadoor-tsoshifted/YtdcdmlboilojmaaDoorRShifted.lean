/- TsoShifted, walked. -/
import Derived.Test.YtdcdmlboilojmaaDoorQAw
namespace Go.Proofs.YtdcdmlboilojmaaDoor
open Go.RowKit Go.Maps
set_option linter.unusedVariables false
set_option linter.unusedSimpArgs false

theorem T.didL_snoc : ∀ (l : List Int) (M : T.Mach) (p : Int), T.didL M (l ++ [p]) = T.didL M l ++ (if T.did (T.runs M l) p = true then [p] else [])
  | [], M, p => by
    show T.didL M [p] = [] ++ (if T.did M p = true then [p] else [])
    unfold T.didL
    cases T.did M p <;> rfl
  | q :: l, M, p => by
    rw [List.cons_append]
    unfold T.didL
    rw [T.didL_snoc l (T.act M q) p]
    show _ = _ ++ (if T.did (T.runs (T.act M q) l) p = true then [p] else [])
    cases T.did M q <;> rfl
theorem T.didL_mem : ∀ (l : List Int) (M : T.Mach) (z : Int), z ∈ T.didL M l → z ∈ l
  | [], M, z, h => by simp [T.didL] at h
  | q :: l, M, z, h => by
    unfold T.didL at h
    split at h
    · rcases List.mem_cons.1 h with rfl | h
      · exact List.mem_cons_self
      · exact List.mem_cons_of_mem _ (T.didL_mem l _ z h)
    · exact List.mem_cons_of_mem _ (T.didL_mem l _ z h)
theorem T.didL_len : ∀ (l : List Int) (M : T.Mach), (T.didL M l).length ≤ l.length
  | [], M => by simp [T.didL]
  | q :: l, M => by
    unfold T.didL
    have := T.didL_len l (T.act M q)
    split
    · simp; omega
    · simp; omega

/-- A machine, and a row beside it. -/
def RanR (B : Nat) (X wq : World) (b : Nat) (M : T.Mach) (K : Nat) (bm g cap : Nat) (ty : TypeId) (m : Nat) (v : Value) (n : Nat) (cs : List Value) : Prop := ∃ t ev us, TV B wq b M K t bm g cap ev us ∧ Below B X wq ∧ Tab wq ∧ wq.ownsRow B ty m v n cs ∧ ∀ x, v.ownBlock = some x → t x = 0
section
variable {B : Nat} {X wq y : World} {b : Nat} {M M' : T.Mach} {K K' : Nat} {bm g cap : Nat} {ty : TypeId} {m : Nat} {v : Value} {n : Nat} {cs : List Value} {t : Nat → Nat} {ev : Value} {us : List Value}
theorem RanR.do (h : TV B wq b M K t bm g cap ev us) (hb : Below B X wq) (ht : Tab wq) (hr : wq.ownsRow B ty m v n cs) (hv : ∀ x, v.ownBlock = some x → t x = 0) (h2 : 2 ≤ B) (hg : Gone B wq y b M' K' t bm g cap) : RanR B X y b M' K' bm g cap ty m v n cs := by
  obtain ⟨t', ev', us', h1, hs⟩ := hg
  have hlo : ∀ k, t k ≠ 0 → B ≤ k := fun k hk => (h.lt k hk).1
  refine ⟨t', ev', us', h1, hb.trans (hs.toBelow hlo h.hB), ht.of hs ?_ ?_, row_cong hr (fun x hx => hs.block x (own_lt hr hx) (hv x hx)), fun x hx => (hs.tag x (own_lt hr hx)).trans (hv x hx)⟩
  · exact Classical.byContradiction fun e => by have := hlo 0 e; omega
  · exact Classical.byContradiction fun e => by have := hlo 1 e; omega
theorem RanR.push (h : TV B wq b M K t bm g cap ev us) (hb : Below B X wq) (ht : Tab wq) (h2 : 2 ≤ B) {Z Y : World} {v' : Value} {n' : Nat} {cs' : List Value} (hr : wq.ownsRow B ty m v n cs) (hv : ∀ x, v.ownBlock = some x → t x = 0) (hz : Below wq.heap.size wq Z) (hg : Z.grownBy Y v.ownBlock) (ho : Y.ownsRow B ty m v' n' cs') (hat : ∀ x, v'.ownBlock = some x → v.ownBlock = some x ∨ wq.heap.size ≤ x) : RanR B X Y b M K bm g cap ty m v' n' cs' := by
  have hblk : ∀ k, k < wq.heap.size → t k ≠ 0 → Y.heap[k]? = wq.heap[k]? := fun k hk e => (hg.block k (Nat.lt_of_lt_of_le hk hz.size) (fun e2 => e (hv k e2.symm))).trans (hz.block k hk)
  have hs : wq.heap.size ≤ Y.heap.size := Nat.le_trans hz.size hg.size
  have hbb : Below B wq Y := ⟨hg.os.trans hz.os, hg.tape.trans hz.tape, hg.output.trans hz.output, hs, fun k hk => (hg.block k (Nat.lt_of_lt_of_le (Nat.lt_of_lt_of_le hk h.hB) hz.size) (fun e => by have := (hr.lt k e.symm).1; omega)).trans (hz.block k (Nat.lt_of_lt_of_le hk h.hB))⟩
  refine ⟨t, ev, us, h.keep hblk (fun _ _ _ => rfl) (fun k hk => ⟨(h.lt k hk).1, Nat.lt_of_lt_of_le (h.lt k hk).2 hs⟩), hb.trans hbb, ?_, ho, fun x hx => ?_⟩
  · refine ⟨fun o => (World.cell?_of_block (a := ⟨0, o, none⟩) (hbb.block 0 (by omega))).trans (ht.1 o), fun o => (World.cell?_of_block (a := ⟨1, o, none⟩) (hbb.block 1 (by omega))).trans (ht.2.1 o), Nat.le_trans ht.2.2 hs⟩
  · rcases hat x hx with h1 | h1
    · exact hv x h1
    · exact Classical.byContradiction fun e => by have := (h.lt x e).2; omega
end

set_option maxRecDepth 100000 in
set_option maxHeartbeats 8000000 in
theorem shifted_no {w : World} {v : Value} {m : ImgD} (h : ImgV w v m) (hl : m.syms.length ≤ 8796093022208) (hm : m.may = false) (p : Value) (ht : Tab w) :
    Calls Tryd.prog 7 #[v, p] w fun e w' => e = .returned (.bool true) ∧ Below w.heap.size w w' := by
  obtain ⟨a1, l1, c1, a2, l2, c2, rfl, hs, h1, h2⟩ := h.form
  obtain ⟨W1, hW1⟩ : ∃ W1, w.alloc (.cells #[.string m.code, .slice a1 l1 c1, .slice a2 l2 c2] 25) = W1 := ⟨_, rfl⟩
  have b1 : Below w.heap.size w W1 := by subst hW1; exact bl_one _ _
  have v0 : W1.cell? ⟨w.heap.size, 0, none⟩ = some (.string m.code) := by subst hW1; exact cell_last _ _ _ _ _ rfl rfl
  have v1 : W1.cell? ⟨w.heap.size, 1, none⟩ = some (.slice a1 l1 c1) := by subst hW1; exact cell_last _ _ _ _ _ rfl rfl
  have v2 : W1.cell? ⟨w.heap.size, 2, none⟩ = some (.slice a2 l2 c2) := by subst hW1; exact cell_last _ _ _ _ _ rfl rfl
  have HB1 : Hid (Below w.heap.size w W1) := b1
  have HN : Hid (Calls Tryd.prog 10 #[.agg #[.string m.code, .slice a1 l1 c1, .slice a2 l2 c2]] W1 fun e w' => e = .returned (.tuple #[.pointer none, .int .i64 1]) ∧ Below W1.heap.size W1 w') := tnew_no (h.below b1) hl hm
  have HT : Hid (Tab w) := ht
  clear h h1 h2 hl hm b1 ht
  go_enter Tryd.func7, Tryd.ntmps7
  go_wp2_with fail
  refine HN.out.mono ?_
  rintro e y1 ⟨rfl, hb1⟩
  have HB2 : Hid (Below w.heap.size w y1) := HB1.out.trans (hb1.mono HB1.out.size)
  have HLV : Hid (Calls Tryd.prog 12 #[] y1 fun e w' => e = .returned (.bool true) ∧ Below y1.heap.size y1 w') := live_any y1 (HT.out.below HB2.out)
  clear hb1 v0 v1 v2
  go_wp2_with fail
  refine HLV.out.mono ?_
  rintro e y2 ⟨rfl, hb2⟩
  have HB3 : Hid (Below w.heap.size w y2) := HB2.out.trans (hb2.mono HB2.out.size)
  clear hb2
  go_wp2
  go_ret
  exact ⟨rfl, HB3.out⟩

set_option maxRecDepth 100000 in
set_option maxHeartbeats 8000000 in
theorem shifted_yes {w : World} {v : Value} {m : ImgD} (h : ImgV w v m) (hl : m.syms.length ≤ 8796093022208) (hm : m.may = true) {a : Option Addr} {l c : Nat} {ps0 : List Int} (hp : IntsV w a l c ps0) (ht : Tab w) :
    Calls Tryd.prog 7 #[v, .slice a l c] w fun e w' => e = .returned (.bool true) ∧ Below w.heap.size w w' := by
  obtain ⟨a1, l1, c1, a2, l2, c2, rfl, hs, h1, h2⟩ := h.form
  obtain ⟨i1, hi1, hz10, hz11, hz12⟩ := info_partsL infoN
  obtain ⟨W1, hW1⟩ : ∃ W1, w.alloc (.cells #[.string m.code, .slice a1 l1 c1, .slice a2 l2 c2] 25) = W1 := ⟨_, rfl⟩
  have b1 : Below w.heap.size w W1 := by subst hW1; exact bl_one _ _
  have v0 : W1.cell? ⟨w.heap.size, 0, none⟩ = some (.string m.code) := by subst hW1; exact cell_last _ _ _ _ _ rfl rfl
  have v1 : W1.cell? ⟨w.heap.size, 1, none⟩ = some (.slice a1 l1 c1) := by subst hW1; exact cell_last _ _ _ _ _ rfl rfl
  have v2 : W1.cell? ⟨w.heap.size, 2, none⟩ = some (.slice a2 l2 c2) := by subst hW1; exact cell_last _ _ _ _ _ rfl rfl
  have hwW : w.heap.size < W1.heap.size := World.block_lt_of_cell? W1 ⟨w.heap.size, 0, none⟩ v0
  have HV012 : Hid (∀ y, Below W1.heap.size W1 y → y.cell? ⟨w.heap.size, 0, none⟩ = some (.string m.code) ∧ y.cell? ⟨w.heap.size, 1, none⟩ = some (.slice a1 l1 c1) ∧ y.cell? ⟨w.heap.size, 2, none⟩ = some (.slice a2 l2 c2)) := fun y hy => ⟨cell_up hy v0, cell_up hy v1, cell_up hy v2⟩
  have HB1 : Hid (Below w.heap.size w W1) := b1
  have HI : Hid (ImgV W1 (.agg #[.string m.code, .slice a1 l1 c1, .slice a2 l2 c2]) m) := h.below b1
  have HLS : Hid (m.syms.length ≤ 8796093022208) := hl
  have HMY : Hid (m.may = true) := hm
  have HN : Hid (Calls Tryd.prog 10 #[.agg #[.string m.code, .slice a1 l1 c1, .slice a2 l2 c2]] W1 fun e w' => NewIs W1.heap.size e w' m.mach ∧ Below W1.heap.size W1 w') := tnew_yes (h.below b1) hl hm
  have HP0 : Hid (IntsV W1 a l c ps0) := hp.below b1
  have HT1 : Hid (Tab W1) := ht.below b1
  have HML : Hid (0 < m.mach.ts.length ∧ m.mach.ts.length ≤ 4) := mach_len m hm
  have HMC : Hid (m.mach.code.size ≤ 65536) := mach_code m hm
  have HMO : Hid (MOk m.mach) := mach_ok m
  have HE0 : Hid (m.mach.es = []) := rfl
  have h2B : 2 ≤ W1.heap.size := HT1.out.2.2
  obtain ⟨M0, hM0⟩ : ∃ M0, m.mach = M0 := ⟨_, rfl⟩
  have HM0 : Hid (m.mach = M0) := hM0
  rw [hM0] at HN HML HMC HMO HE0
  clear h h1 h2 hl hm b1 hp ht hM0
  go_enter Tryd.func7, Tryd.ntmps7
  go_wp2_with fail
  refine HN.out.mono ?_
  rintro e y1 ⟨⟨b, t, bm, g, cap, us, rfl, htv⟩, hb1⟩
  have HFW : Hid (Calls Tryd.prog 13 #[.slice a l c, .int .i64 200] y1 fun e w' => (∃ l', e = .returned (.slice a l' c) ∧ IntsV y1 a l' c (ps0.take 200) ∧ l' ≤ 200) ∧ w' = y1) := few_any (HP0.out.below hb1) 200 (by decide)
  have HTV1 : Hid (TV W1.heap.size y1 b M0 0 t bm g cap (.slice none 0 0) us) := htv
  have HBY1 : Hid (Below W1.heap.size W1 y1) := hb1
  clear htv hb1 v0 v1 v2
  go_wp2_with fail
  refine HFW.out.mono ?_
  rintro e y1' ⟨⟨l', rfl, hp', hl'⟩, rfl⟩
  obtain ⟨ps, hps⟩ : ∃ ps, ps0.take 200 = ps := ⟨_, rfl⟩
  rw [hps] at hp'
  have HP : Hid (IntsV y1' a l' c ps) := hp'
  have HL : Hid (ps.length = l') := hp'.count
  have hro := hp'.room
  unfold maxLen at hro
  have HR0 : Hid (RanR W1.heap.size W1 y1' b (T.runs M0 (ps.take 0)) (11 * 0) bm g cap 3 1 (.slice none 0 0) (T.didL M0 (ps.take 0)).length ((T.didL M0 (ps.take 0)).flatMap intC)) := ⟨t, _, us, HTV1.out, HBY1.out, HT1.out.below HBY1.out, World.ownsRow_nil _ _ _ _, fun x hx => by simp [Value.ownBlock] at hx⟩
  have HPC : Hid (∀ wq, Below W1.heap.size W1 wq → l' = 0 ∨ ∃ zb zo, a = some ⟨zb, zo, none⟩ ∧ ∀ i, i < l' → wq.cell? ⟨zb, zo + i, none⟩ = some (.int .i64 (ps.getD i 0))) := fun wq hq => by
    rcases HP0.out.cells with h0 | ⟨zb, zo, hA, hcl⟩
    · left; have := HP0.out.count; have h3 := HL.out; rw [← hps, List.length_take] at h3; omega
    · refine .inr ⟨zb, zo, hA, fun i hi => ?_⟩
      have hc := HL.out
      rw [← hps, List.length_take, HP0.out.count] at hc
      have h4 := cell_up hq (hcl i (by omega))
      rw [h4, ← hps]
      simp [List.getD, List.getElem?_take, show i < 200 by omega]
  clear hp' hps
  go_wp2_with fail
  go_loopg [7, 8] l' (fun r dv iv wq => ∃ (k : Nat), iv = .int .i64 k ∧ k ≤ l' ∧ l' - k ≤ r ∧ Hid (RanR W1.heap.size W1 wq b (T.runs M0 (ps.take k)) (11 * k) bm g cap 3 1 dv (T.didL M0 (ps.take k)).length ((T.didL M0 (ps.take k)).flatMap intC)))
  case atStart => exact ⟨0, rfl, Nat.zero_le _, by omega, HR0⟩
  case round =>
    obtain ⟨k, rfl, hk, hr, HR⟩ := hrel
    obtain ⟨t1, ev1, us1, htv, hbx, htx, hrow, hrt⟩ := HR.out
    have hln := T.runs_len (ps.take k) M0 HML.out.1
    have hcd := T.runs_code (ps.take k) M0 HML.out.1
    obtain ⟨xs, hxs, hxl⟩ := T.runs_es (ps.take k) M0 HML.out.1
    have hes : (T.runs M0 (ps.take k)).es.length ≤ 800000 := by rw [hxs, HE0.out, List.nil_append]; rw [List.length_take] at hxl; omega
    by_cases hlt : k < l'
    · rcases HPC.out wr hbx with h0 | ⟨zb, zo, hA, hcl⟩
      · omega
      have q0 := hcl k hlt
      have hkl : k < ps.length := by rw [HL.out]; exact hlt
      obtain ⟨z, hz⟩ : ∃ z, ps.getD k 0 = z := ⟨_, rfl⟩
      rw [hz] at q0
      have hzf := HP.out.fits z (by rw [← hz]; simp [List.getD, hkl])
      have hpk : ps.take (k + 1) = ps.take k ++ [z] := by
        rw [List.take_succ_eq_append_getElem hkl, ← hz]
        simp [List.getD, hkl]
      have HTK : Hid (T.runs M0 (ps.take (k + 1)) = T.act (T.runs M0 (ps.take k)) z) := by
        show _ = _
        rw [hpk, T.runs_snoc]
      have HDK : Hid (T.didL M0 (ps.take (k + 1)) = T.didL M0 (ps.take k) ++ (if T.did (T.runs M0 (ps.take k)) z = true then [z] else [])) := by
        show _ = _
        rw [hpk, T.didL_snoc]
      have HDO0 := do_any htv (MOk.runs _ HMO.out HML.out.1) (by omega) (by unfold maxLen; omega) htx h2B (by rw [hcd]; exact HMC.out) (by rw [hln]; exact HML.out.2) z hzf
      obtain ⟨dd, hdd⟩ : ∃ dd, T.did (T.runs M0 (ps.take k)) z = dd := ⟨_, rfl⟩
      rw [hdd] at HDO0 HDK
      have HDO : Hid (Calls Tryd.prog 14 #[.pointer (some ⟨b, 0, none⟩), .int .i64 z] wr fun e w' => e = .returned (.bool dd) ∧ Gone W1.heap.size wr w' b (T.act (T.runs M0 (ps.take k)) z) (11 * k + 11) t1 bm g cap) := HDO0
      have HTV : Hid (TV W1.heap.size wr b (T.runs M0 (ps.take k)) (11 * k) t1 bm g cap ev1 us1) := htv
      have HBX : Hid (Below W1.heap.size W1 wr) := hbx
      have HTX : Hid (Tab wr) := htx
      have HRW : Hid (wr.ownsRow W1.heap.size 3 1 u7 (T.didL M0 (ps.take k)).length ((T.didL M0 (ps.take k)).flatMap intC)) := hrow
      have HRT : Hid (∀ x, u7.ownBlock = some x → t1 x = 0) := hrt
      have HDL : Hid ((T.didL M0 (ps.take k)).length ≤ k) := by show _ ≤ _; have := T.didL_len (ps.take k) M0; rw [List.length_take] at this; omega
      subst hA
      have hii : (k : Int) < l' := by omega
      have hin : 0 ≤ (k : Int) := by omega
      clear hcl hz hzf htv hbx htx hln hcd hxs hxl hes hrow hrt HDO0 hdd hpk
      go_wp2_with fail
      refine HDO.out.mono ?_
      rintro e y2 ⟨rfl, hg⟩
      have hR2 := RanR.do HTV.out HBX.out HTX.out HRW.out HRT.out h2B hg
      have q0' : y2.cell? ⟨zb, zo + k, none⟩ = some (.int .i64 z) := by
        obtain ⟨t3, ev3, us3, hv3, hb3, -⟩ := hR2
        rcases HPC.out y2 hb3 with h0 | ⟨zb', zo', hA', hcl'⟩
        · omega
        · cases hA'
          rw [hcl' k hlt]
          rcases HPC.out wr HBX.out with h0 | ⟨zb', zo', hA', hcl''⟩
          · omega
          · cases hA'
            rw [hcl'' k hlt] at q0
            exact q0
      cases dd with
      | false =>
        have HRN : Hid (RanR W1.heap.size W1 y2 b (T.runs M0 (ps.take (k + 1))) (11 * (k + 1)) bm g cap 3 1 u7 (T.didL M0 (ps.take (k + 1))).length ((T.didL M0 (ps.take (k + 1))).flatMap intC)) := by
          show RanR _ _ _ _ _ _ _ _ _ _ _ _ _ _
          rw [HTK.out, HDK.out, if_neg (by decide), List.append_nil]
          exact hR2
        clear hg hR2
        go_wp2
        go_roundg (l' - (k + 1))
        · exact ⟨k + 1, rfl, by omega, Nat.le_refl _, HRN⟩
        · omega
      | true =>
        obtain ⟨t3, ev3, us3, hv3, hb3, ht3, hr3, hx3⟩ := hR2
        obtain ⟨dn, hdn⟩ : ∃ dn, (T.didL M0 (ps.take k)).length = dn := ⟨_, rfl⟩
        have hdl : dn ≤ k := by rw [← hdn]; exact HDL.out
        have HDN : Hid ((T.didL M0 (ps.take k)).length = dn) := hdn
        have HB1' : Hid (Below y2.heap.size y2 (y2.alloc (.cells #[.int .i64 z] 3))) := bl_one _ _
        have HW1 : Hid ((y2.alloc (.cells #[.int .i64 z] 3)).ownsRow W1.heap.size 3 1 u7 dn ((T.didL M0 (ps.take k)).flatMap intC)) := by
          show World.ownsRow _ _ _ _ _ _ _
          rw [← hdn]
          exact own_below hr3 HB1'.out
        have HNC : Hid (∀ j u, (intC z)[j]? = some u → (y2.alloc (.cells #[.int .i64 z] 3)).cell? ((⟨y2.heap.size, 0, none⟩ : Addr).add j) = some u) := fun j u hu => by
          rw [Addr.add_lit, Nat.zero_add]
          exact cell_last _ _ _ _ _ rfl (by simpa [intC] using hu)
        have HV3 : Hid (TV W1.heap.size y2 b (T.act (T.runs M0 (ps.take k)) z) (11 * k + 11) t3 bm g cap ev3 us3) := hv3
        have HB3 : Hid (Below W1.heap.size W1 y2) := hb3
        have HT3 : Hid (Tab y2) := ht3
        have HR3 : Hid (y2.ownsRow W1.heap.size 3 1 u7 dn ((T.didL M0 (ps.take k)).flatMap intC)) := by
          show World.ownsRow _ _ _ _ _ _ _
          rw [← hdn]; exact hr3
        have HX3 : Hid (∀ x, u7.ownBlock = some x → t3 x = 0) := hx3
        have hys : W1.heap.size ≤ y2.heap.size := hb3.size
        clear hg hv3 hb3 ht3 hr3 hx3 hdn
        go_wp2_with (first | (at_builtin; refine wpList_append_lies _ rfl _ _ 26 rfl W1.heap.size 3 i1 _ 1 8 Tryd.underlying26 hi1 hz10 hz11 hz12 rfl (by decide) u7 dn _ rfl HW1.out ⟨y2.heap.size, 0, none⟩ 1 1 (intC z) rfl rfl HNC.out (by intro u hu; simp [intC] at hu; subst hu; rfl) (by decide) (by unfold maxLen; omega) (by omega) (by simp; omega) (y2.heap.size + 1) (by simp) ?_) | go_in)
        intro ga ca Y6 ho6 hg6 hat6 hlt6
        have HRN : Hid (RanR W1.heap.size W1 Y6 b (T.runs M0 (ps.take (k + 1))) (11 * (k + 1)) bm g cap 3 1 (.slice (some ⟨ga, 0, none⟩) (dn + 1) ca) (T.didL M0 (ps.take (k + 1))).length ((T.didL M0 (ps.take (k + 1))).flatMap intC)) := by
          show RanR _ _ _ _ _ _ _ _ _ _ _ _ _ _
          rw [HTK.out, HDK.out, if_pos trivial, List.length_append, HDN.out, List.flatMap_append, show ([z].flatMap intC) = intC z by simp [intC]]
          refine RanR.push HV3.out HB3.out HT3.out h2B HR3.out HX3.out HB1'.out hg6 ho6 (fun x hx => ?_)
          have hx' : ga = x := by simpa [Value.ownBlock] using hx
          rw [← hx']
          exact hat6.imp id (fun e => by omega)
        clear ho6 hg6 hat6 hlt6
        go_wp2
        go_roundg (l' - (k + 1))
        · exact ⟨k + 1, rfl, by omega, Nat.le_refl _, HRN⟩
        · omega
    · obtain rfl : k = l' := by omega
      have hpk : ps.take k = ps := by rw [← HL.out, List.take_length]
      rw [hpk] at htv hes hrow
      obtain ⟨da, dc, rfl, hdv⟩ := ints_own hrow rfl (fun z hz => HP.out.fits z (T.didL_mem ps M0 z hz))
      have hdl := T.didL_len ps M0
      rw [HL.out] at hdl
      obtain ⟨v0, v1, v2⟩ := HV012.out wr hbx
      have hrun := run_yes (HI.out.below hbx) HLS.out HMY.out hdv (by omega) htx
      rw [HM0.out, T.runs_did] at hrun
      obtain ⟨dn, hdn⟩ : ∃ dn, (T.didL M0 ps).length = dn := ⟨_, rfl⟩
      obtain ⟨es, hess⟩ : ∃ es, (T.runs M0 ps).es = es := ⟨_, rfl⟩
      rw [hdn, hess] at hrun
      rw [hdn]
      have HRU : Hid (Calls Tryd.prog 23 #[.agg #[.string m.code, .slice a1 l1 c1, .slice a2 l2 c2], .slice da dn dc] wr fun e w' => RunIs wr.heap.size e w' es ∧ Below wr.heap.size wr w') := hrun
      have HTV : Hid (TV W1.heap.size wr b (T.runs M0 ps) (11 * k) t1 bm g cap ev1 us1) := htv
      have HBX : Hid (Below w.heap.size w wr) := HB1.out.trans (hbx.mono HB1.out.size)
      have HTX : Hid (Tab wr) := htx
      have HES : Hid ((T.runs M0 ps).es = es ∧ es.length ≤ 800000) := ⟨hess, by rw [← hess]; exact hes⟩
      clear htv hbx htx hln hcd hxs hxl hes hrow hrt HR hrun hdv hdn hess hdl hpk
      go_wp2_with fail
      refine HRU.out.mono ?_
      rintro e y2 ⟨⟨va, rfl, hoa⟩, hb2⟩
      have HB2 : Hid (Below w.heap.size w y2) := HBX.out.trans (hb2.mono HBX.out.size)
      have HEV : Hid (Calls Tryd.prog 22 #[.pointer (some ⟨b, 0, none⟩)] y2 fun e w' => RowIs y2.heap.size 81 3 e w' es.length (es.flatMap eC) ∧ Below y2.heap.size y2 w') := by
        have h5 := events_any (HTV.out.below hb2) (by rw [HES.out.1]; have := HES.out.2; omega)
        rw [HES.out.1] at h5
        exact h5
      have HOA : Hid (y2.ownsRow wr.heap.size 81 3 va es.length (es.flatMap eC)) := hoa
      have HTY : Hid (Tab y2) := HTX.out.below hb2
      clear hoa hb2 v0 v1 v2
      go_wp2_with fail
      refine HEV.out.mono ?_
      rintro e y3 ⟨⟨vb, rfl, hob⟩, hb3⟩
      have HB3 : Hid (Below w.heap.size w y3) := HB2.out.trans (hb3.mono HB2.out.size)
      have HSE : Hid (Calls Tryd.prog 21 #[va, vb] y3 fun e w' => e = .returned (.bool true) ∧ Below y3.heap.size y3 w') := sameE_any (own_below HOA.out hb3) hob
      have HTZ : Hid (Tab y3) := HTY.out.below hb3
      clear hob hb3
      go_wp2_with fail
      refine HSE.out.mono ?_
      rintro e y4 ⟨rfl, hb4⟩
      have HB4 : Hid (Below w.heap.size w y4) := HB3.out.trans (hb4.mono HB3.out.size)
      have HLV : Hid (Calls Tryd.prog 12 #[] y4 fun e w' => e = .returned (.bool true) ∧ Below y4.heap.size y4 w') := live_any y4 (HTZ.out.below hb4)
      clear hb4
      go_wp2_with fail
      refine HLV.out.mono ?_
      rintro e y5 ⟨rfl, hb5⟩
      have HB5 : Hid (Below w.heap.size w y5) := HB4.out.trans (hb5.mono HB4.out.size)
      clear hb5
      go_wp2
      go_ret
      exact ⟨rfl, HB5.out⟩

theorem shifted_any {w : World} {v : Value} {m : ImgD} (h : ImgV w v m) (hl : m.syms.length ≤ 8796093022208) {a : Option Addr} {l c : Nat} {ps : List Int} (hp : IntsV w a l c ps) (ht : Tab w) :
    Calls Tryd.prog 7 #[v, .slice a l c] w fun e w' => e = .returned (.bool true) ∧ Below w.heap.size w w' := by
  cases hm : m.may with
  | false => exact shifted_no h hl hm _ ht
  | true => exact shifted_yes h hl hm hp ht

end Go.Proofs.YtdcdmlboilojmaaDoor

/- Proved: TsoShifted answers true for every image and every picks (the reach that the form gives is the only bound), where the tables of instructions are what their initialisers lay (the card ties that to the program): a pick that does nothing changes nothing. -/
namespace Go.Proofs.YtdcdmlboilojmaaDoor.tsoShifted
open Go.ChangeShapes Go.WideShapes Go.ChangeAt Go.RowKit
open Go.ChangeMaps (open_string shut_string)
set_option linter.unusedVariables false
set_option maxRecDepth 100000

theorem own : ownKnob Tryd.prog.godebug = none := by kernel_rfl
theorem laidO : laidOutB Tryd.prog = true := by kernel_rfl

/-! ### The row -/
theorem contract (H : Type) (enc : TypeId × Value → H) (W : World) (base : Nat) (args : Array Value) (ds gs : List (DataW H)) (before : List MemPlace)
    (hval : ∀ (j : Nat) t v, Tryd.f7.params[j]? = some t → args[j]? = some v → Value.okWide Tryd.prog W .any base t v)
    (hW : DataW.Whole enc Tryd.prog Tryd.f7.params.toList Rows.tsoShiftedSpec.vars false W args.toList ds gs before) (hsz : (DataW.weightsEach Tryd.prog (Tryd.f7.params.toList ++ Rows.tsoShiftedSpec.plain.varTypes Tryd.prog) (ds ++ gs)).all (· ≤ reachBytes) = true) (hT : Tab W) :
    Calls Tryd.prog 7 args W fun e W' => ∃ v, e = .returned v ∧ Rows.tsoShiftedSpec.post enc Tryd.prog Tryd.f7 false true false false W args v W' := by
  have hW' := hW
  obtain ⟨p, q, hA0, hV, rfl, hfz, hnd⟩ := hW
  have hA : DataW.TrodAll enc Tryd.prog W 0 (fun _ => true) true Tryd.f7.params.toList args.toList ds p := hA0
  have hlt := hA.lt
  rw [Tryd.params7] at hA hval hsz
  obtain ⟨v0, vs0, d0, ds0, p0, q0, hargs, rfl, rfl, h0, r0⟩ := trodAll_cons hA
  obtain ⟨v1, vs1, d1, ds1, p1, q1, rfl, rfl, rfl, h1, r1⟩ := trodAll_cons r0
  obtain ⟨rfl, rfl, rfl⟩ := trodAll_nil r1
  obtain rfl : args = #[v0, v1] := by cases args; simp_all
  obtain ⟨rfl, rfl⟩ := trodVars_none hV
  obtain ⟨m0, V0⟩ := open_img (fun _ => rfl) (hval 0 25 v0 rfl rfl) h0
  have hl0 : m0.syms.length ≤ 8796093022208 := by
    have h1 := (img_sized (hval 0 25 v0 rfl rfl) h0 V0 (R := reachBytes) (fun n hn => by
      have h2 := List.all_eq_true.1 hsz n (DataW.weights_mem_each (j := 0) rfl rfl n hn)
      simpa using h2)).2
    have h3 : reachBytes = 140737488351232 := rfl
    omega
  obtain ⟨x1, y1, t1, rfl⟩ := okWide_slice Tryd.underlying26 (hval 1 26 v1 rfl rfl)
  have hh1 := h1
  obtain ⟨fuel1, g1⟩ := hh1
  obtain ⟨a1, l1, c1, zs1, e1, V1, -⟩ := open_N (v := .slice x1 y1 t1) (fun _ => rfl) g1
  cases e1
  clear hA0
  simp only [List.append_nil] at hW'
  refine (shifted_any V0 hl0 V1 hT).mono fun e W' ⟨he, hg⟩ => ?_
  subst he
  exact ⟨_, rfl, _, _, _, [], _, [], hW', (trodAll_cons_mk (shut_bool Tryd.underlying4 _) trodAll_mk0), (trodAll_cons_mk (Below.trod laidO (by kernel_rfl) (of_decide_eq_true (by kernel_rfl)) h0 hg (fun x hx => hlt x (by simp [hx]))) (trodAll_cons_mk (Below.trod laidO (by kernel_rfl) (of_decide_eq_true (by kernel_rfl)) h1 hg (fun x hx => hlt x (by simp [hx]))) trodAll_mk0)), rfl, hg.frame _, fun h => by cases h⟩

theorem laid_met (os : Os) : laidMet Tryd.prog Rows.tsoShiftedRow.laid ((laidWorld os).forCall (fun _ _ => 0) ⟨#[], #[.agg #[.string { data := #[] }, .slice none 0 0, .slice none 0 0], .slice none 0 0], []⟩).memory :=
  laidMet_of_run' 8 (by kernel_rfl) (by kernel_rfl)
theorem reads (os : Os) {H : Type} (enc : TypeId × Value → H) : ∃ places, DataW.whole enc Tryd.prog ((laidWorld os).forCall (fun _ _ => 0) ⟨#[], #[.agg #[.string { data := #[] }, .slice none 0 0, .slice none 0 0], .slice none 0 0], []⟩).memory Tryd.f7.params.toList Rows.tsoShiftedSpec.vars false (#[.agg #[.string { data := #[] }, .slice none 0 0, .slice none 0 0], .slice none 0 0] : Array Value).toList 8 = some ([.agg [.lit (.string []), .nil, .nil], .nil], [], places) :=
  ⟨[], by kernel_rfl⟩

set_option maxRecDepth 100000 in
theorem lifted (os : Os) (started : os.Started) (H : Type) (enc : TypeId × Value → H) (F : Stop.Interp) :
    ReturnsInHanded {} Tryd.checked os 7 .any ((OpenSpec.ofChange Rows.tsoShiftedSpec).preRow enc Tryd.prog Tryd.f7 Rows.tsoShiftedRow.domain false Rows.tsoShiftedRow.laid) (((OpenSpec.ofChange Rows.tsoShiftedSpec).at F).post enc Tryd.prog Tryd.f7 false true false false) := by
  obtain ⟨places, hx⟩ := reads os enc
  refine returnsInHanded_of_row (C := Tryd.checked) (s := OpenSpec.ofChange Rows.tsoShiftedSpec) own started (by kernel_rfl) Tryd.func7
    (witness_row_at (enc := enc) (C := Tryd.checked) false (laidWorld os) #[.agg #[.string { data := #[] }, .slice none 0 0, .slice none 0 0], .slice none 0 0] rfl (by kernel_rfl) (by kernel_rfl) (by kernel_rfl)
      (OpenSpec.preRow_of_cond 8 hx (by kernel_rfl) (fun k hk => by cases hk) (by kernel_rfl) (laid_met os))) ?_
  intro W base args ds gs before hval hW _ hcond hsz hL _ _
  exact contract H enc W base args ds gs before hval hW hsz (tab_of_laid hL)

theorem said : Rows.TsoShiftedSaid :=
  OpenClaim.holds_of_cond 7 Tryd.f7 rfl rfl rfl rfl rfl rfl rfl ⟨rfl, rfl, rfl, rfl, rfl⟩ rfl rfl rfl rfl rfl (by kernel_rfl) Tryd.func7 (by kernel_rfl)
    (of_decide_eq_true (by kernel_rfl)) (by unfold Func.isWrapper; first | (rw [if_pos (by decide +kernel)]; kernel_rfl) | (rw [if_neg (by decide +kernel)]; exact ⟨rfl, rfl⟩))
    (fun os started H enc _ F => by rw [OpenClaim.pre_eq_preRow]; exact lifted os started H enc F)

/-- No parameter wants a stand-in; the program's own looks are off: what the card asks. -/
theorem plain (f : FuncId) (fn : Func) (hf : Tryd.pinned.checked.prog.funcNamed "cotter/cotterlaw05.TsoShifted" = some f) (hfn : Tryd.pinned.checked.prog.funcs[f]? = some fn) :
    false = Tryd.pinned.checked.prog.looks [] ∧ ∀ (j : Nat) t, fn.params[j]? = some t → Tryd.pinned.checked.prog.wantsStandIn t = false := by
  obtain rfl : f = 7 := Option.some.inj ((show Tryd.prog.funcNamed "cotter/cotterlaw05.TsoShifted" = some 7 by kernel_rfl).symm.trans hf) |>.symm
  obtain rfl : fn = Tryd.f7 := (Option.some.inj (Tryd.func7.symm.trans hfn)).symm
  refine ⟨by kernel_rfl, fun j t ht => ?_⟩
  rw [Tryd.params7] at ht
  have hm : t ∈ [25, 26] := by simpa using Array.mem_of_getElem? ht
  have hall : ([25, 26].all fun u => !Tryd.prog.wantsStandIn u) = true := by kernel_rfl
  exact (show Tryd.prog.wantsStandIn t = false by simpa using List.all_eq_true.1 hall t hm)

theorem card : Rows.TsoShiftedCardSaid :=
  Claim7.holds_tied_plain_at .later [] _ _ _ _ said (fun _ h => by cases h) (by kernel_rfl) (fun _ h => by cases h) tsoShifted_row_tie rfl ⟨rfl, rfl⟩ (by kernel_rfl) rfl plain (by kernel_rfl)
end Go.Proofs.YtdcdmlboilojmaaDoor.tsoShifted
namespace Go.Proofs.YtdcdmlboilojmaaDoor
/-- The statement. -/
theorem tsoShifted_holds : Rows.TsoShiftedCardSaid := tsoShifted.card
#print axioms tsoShifted_holds
end Go.Proofs.YtdcdmlboilojmaaDoor
