/- An exchange. -/
import Derived.Test.YtneclfaamgfoeaaDoorEAf
import Derived.Test.YtneclfaamgfoeaaDoorProg
import Derived.Test.YtneclfaamgfoeaaDoorEAa
import Derived.WalkKit
import Derived.WalkSpells
import Derived.WalkLawsBesides
import Derived.Below
import Derived.Deep.RegionHeld3
import Derived.Deep.DrawnRows
namespace Go.Proofs.YtneclfaamgfoeaaDoor
open Go.RowKit Go.Maps
set_option linter.unusedVariables false
set_option linter.unusedSimpArgs false

theorem lit1_any {w : World} {rb : Nat} {v : Int} (hc : w.cell? ⟨rb, 2, none⟩ = some (.int .i64 v)) (n : Int) :
    Calls Tryd.prog 81 #[.int .i64 n, .pointer (some ⟨rb, 0, none⟩)] w fun e w' => e = .returned (.int .i64 v) ∧ w' = w := by
  go_enter Tryd.func81, Tryd.ntmps81
  go_wp2
  go_ret
  exact ⟨rfl, rfl⟩
theorem lit2_any {w : World} {rb : Nat} {v : Int} (hc : w.cell? ⟨rb, 2, none⟩ = some (.int .i64 v)) (n : Int) :
    Calls Tryd.prog 82 #[.int .i64 n, .pointer (some ⟨rb, 0, none⟩)] w fun e w' => e = .returned (.int .i64 (wrap64 (n + v))) ∧ w' = w := by
  go_enter Tryd.func82, Tryd.ntmps82
  go_wp2
  go_ret
  exact ⟨rfl, rfl⟩

set_option maxRecDepth 100000 in
set_option maxHeartbeats 4000000 in
theorem texch1_any {B : Nat} {w : World} {b : Nat} {M : T.Mach} {K : Nat} {t : Nat → Nat} {bm g cap : Nat} {ev : Value} {us : List Value} (h : TV B w b M K t bm g cap ev us) {k q : Nat} (hk : k < M.ts.length) (hq : q = k * 13) (hok : WsOk (M.th k).ws) (h8 : (M.th k).ws.length ≤ 8) (x r : Int) (hx : (Lit.int .i64 x).wf = true) (hrw : (Lit.int .i64 r).wf = true) {rb : Nat} (hc : w.cell? ⟨rb, 2, none⟩ = some (.int .i64 r)) (hrb : t rb = 0) (hK : K + 2000 < maxLen) :
    Calls Tryd.prog 80 #[.pointer (some ⟨b, 0, none⟩), .pointer (some ⟨g, q, none⟩), .int .i64 x, .func (.func 81) #[] #[.pointer (some ⟨rb, 0, none⟩)]] w fun e w' => e = .returned (.tuple #[.int .i64 (T.has (M.mem x) (((T.drain M k).mem x).getD 0) 0), .int .i64 (T.er (M.mem x))]) ∧ ∃ t' us', TV B w' b (T.has (M.mem x) (T.swap M k x r) M) (K + 11) t' bm g cap ev us' ∧ St t t' w w' := by
  have c1 := h.c1
  have hbl := h.bl
  have HM : Hid (Calls Tryd.prog 37 #[.pointer (some ⟨bm, 0, none⟩), .int .i64 x] w fun e w' => e = .returned (.tuple #[.int .i64 ((M.mem x).getD 0), .int .i64 (T.er (M.mem x))]) ∧ MP B w' bm M.mem (K + 1) t ∧ On t 2 w w') := mp_load h.mem x hx (by omega) h.hB
  have HV : Hid (TV B w b M K t bm g cap ev us) := h
  have HQ : Hid (q = k * 13) := hq
  have HOK : Hid (WsOk (M.th k).ws) := hok
  have hrl : rb < w.heap.size := World.block_lt_of_cell? w ⟨rb, 2, none⟩ hc
  have HD : Hid (((T.drain M k).mem x).isSome = (M.mem x).isSome) := T.upds_some _ _ _
  clear h hq hok
  cases em : M.mem x with
  | none =>
    rw [em] at HM
    clear em HD
    simp only [T.er, Option.getD_none] at HM
    simp only [T.er, T.has]
    go_enter Tryd.func80, Tryd.ntmps80
    go_wp2_with fail
    refine HM.out.mono ?_
    rintro e y2 ⟨rfl, hm, hon⟩
    have HV2 : Hid (TV B y2 b M (K + 1) t bm g cap ev us) := HV.out.memop hon hm
    have HS2 : Hid (St t t w y2) := hon.st (by decide)
    clear hm hon
    go_wp2
    go_ret2
    exact ⟨rfl, t, us, HV2.out.mono (by omega), HS2.out⟩
  | some v0 =>
    rw [em] at HM HD
    clear em
    simp only [T.er, Option.getD_some] at HM
    simp only [T.er, T.has]
    obtain ⟨dv, hdv⟩ : ∃ dv, (T.drain M k).mem x = some dv := Option.isSome_iff_exists.1 HD.out
    rw [hdv]
    simp only [Option.getD_some]
    have HDV : Hid ((T.drain M k).mem x = some dv) := hdv
    clear hdv
    go_enter Tryd.func80, Tryd.ntmps80
    go_wp2_with fail
    refine HM.out.mono ?_
    rintro e y2 ⟨rfl, hm, hon⟩
    have HV2 : Hid (TV B y2 b M (K + 1) t bm g cap ev us) := HV.out.memop hon hm
    have HS2 : Hid (St t t w y2) := hon.st (by decide)
    have HL : Hid (Calls Tryd.prog 83 #[.pointer (some ⟨b, 0, none⟩), .pointer (some ⟨g, q, none⟩)] y2 fun e w' => e = .returned (.tuple #[]) ∧ ∃ t' us', TV B w' b (T.drain M k) (K + 1 + (M.th k).ws.length) t' bm g cap ev us' ∧ St t t' y2 w') := leaveAll_any HV2.out hk HQ.out HOK.out (by omega)
    clear hm hon c1
    go_wp2_with fail
    refine HL.out.mono ?_
    rintro e y3 ⟨rfl, t1, us1, hv3, hs3⟩
    have HV3 : Hid (TV B y3 b (T.drain M k) (K + 1 + (M.th k).ws.length) t1 bm g cap ev us1) := hv3
    have HS3 : Hid (St t t1 w y3) := HS2.out.trans hs3
    have c13 := hv3.c1
    have hm3 := mp_load hv3.mem x hx (by omega) hv3.hB
    rw [HDV.out] at hm3
    have HM3 : Hid (Calls Tryd.prog 37 #[.pointer (some ⟨bm, 0, none⟩), .int .i64 x] y3 fun e w' => e = .returned (.tuple #[.int .i64 dv, .int .i64 0]) ∧ MP B w' bm (T.drain M k).mem (K + 1 + (M.th k).ws.length + 1) t1 ∧ On t1 2 y3 w') := hm3
    clear hv3 hs3 hm3 HL HM
    go_wp2_with fail
    refine HM3.out.mono ?_
    rintro e y4 ⟨rfl, hm4, hon4⟩
    have HV4 : Hid (TV B y4 b (T.drain M k) (K + 1 + (M.th k).ws.length + 1) t1 bm g cap ev us1) := HV3.out.memop hon4 hm4
    have HS4 : Hid (St t t1 w y4) := HS3.out.trans (hon4.st (by decide))
    have cr4 : y4.cell? ⟨rb, 2, none⟩ = some (.int .i64 r) := blk_cell (p := ⟨rb, 2, none⟩) (HS4.out.block rb hrl hrb) hc
    have c14 := HV4.out.c1
    have HT1 : Hid (t1 rb = 0) := (HS4.out.tag rb hrl).trans hrb
    have hm5 := mp_store HV4.out.mem x r hx hrw (by omega) HV4.out.hB
    rw [HDV.out] at hm5
    have HM5 : Hid (Calls Tryd.prog 47 #[.pointer (some ⟨bm, 0, none⟩), .int .i64 x, .int .i64 r] y4.drew fun e w' => e = .returned (.int .i64 0) ∧ MP B w' bm (T.upd (T.drain M k).mem x r) (K + 1 + (M.th k).ws.length + 1 + 1) t1 ∧ On t1 2 y4.drew w') := by
      have hm6 := mp_store (HV4.out.below (Below.refl _ _).drew).mem x r hx hrw (by omega) (HV4.out.below (Below.refl _ _).drew).hB
      rw [HDV.out] at hm6
      exact hm6
    have HLT : Hid (Calls Tryd.prog 81 #[.int .i64 dv, .pointer (some ⟨rb, 0, none⟩)] y4.drew fun e w' => e = .returned (.int .i64 r) ∧ w' = y4.drew) := lit1_any (w := y4.drew) cr4 dv
    have hrl4 : rb < y4.heap.size := World.block_lt_of_cell? y4 ⟨rb, 2, none⟩ cr4
    have HKK : Hid (∀ z : World, On t1 2 y4.drew z → z.cell? ⟨b, 1, none⟩ = some (.pointer (some ⟨bm, 0, none⟩)) ∧ z.cell? ⟨rb, 2, none⟩ = some (.int .i64 r)) := fun z hon => by
      have e1 := hon.block b HV4.out.bl (by rw [HV4.out.tb]; decide)
      have e2 := hon.block rb hrl4 (by rw [HT1.out]; decide)
      exact ⟨blk_cell (p := ⟨b, 1, none⟩) e1 c14, blk_cell (p := ⟨rb, 2, none⟩) e2 cr4⟩
    clear hm5 hm4 hon4 c13 hc
    go_wp2_with fail
    go_region_held3 (fun w' : World => w'.cell? ⟨b, 1, none⟩ = some (.pointer (some ⟨bm, 0, none⟩)) ∧ w'.cell? ⟨rb, 2, none⟩ = some (.int .i64 r)) (first | exact ⟨c14, cr4⟩ | exact HKK.out _ hon5) (first | (go_at_call 81; refine HLT.out.mono ?_; rintro e y5 ⟨rfl, rfl⟩) | (go_at_call 47; refine HM5.out.mono ?_; rintro e y5 ⟨rfl, hm5, hon5⟩))
    have HV5 : Hid (TV B y5 b (T.swap M k x r) (K + 1 + (M.th k).ws.length + 1 + 1) t1 bm g cap ev us1) := (HV4.out.below (Below.refl _ _).drew).memop hon5 hm5
    have HS5 : Hid (St t t1 w y5) := HS4.out.trans ((St.ofBelow t1 (Below.refl _ _).drew).trans (hon5.st (by decide)))
    clear hm5 hon5
    go_wp2
    go_ret2
    exact ⟨rfl, t1, us1, HV5.out.mono (by omega), HS5.out⟩

set_option maxRecDepth 100000 in
set_option maxHeartbeats 4000000 in
theorem texch2_any {B : Nat} {w : World} {b : Nat} {M : T.Mach} {K : Nat} {t : Nat → Nat} {bm g cap : Nat} {ev : Value} {us : List Value} (h : TV B w b M K t bm g cap ev us) {k q : Nat} (hk : k < M.ts.length) (hq : q = k * 13) (hok : WsOk (M.th k).ws) (h8 : (M.th k).ws.length ≤ 8) (x r : Int) (hx : (Lit.int .i64 x).wf = true) (hrw : (Lit.int .i64 r).wf = true) {rb : Nat} (hc : w.cell? ⟨rb, 2, none⟩ = some (.int .i64 r)) (hrb : t rb = 0) (hK : K + 2000 < maxLen) :
    Calls Tryd.prog 80 #[.pointer (some ⟨b, 0, none⟩), .pointer (some ⟨g, q, none⟩), .int .i64 x, .func (.func 82) #[] #[.pointer (some ⟨rb, 0, none⟩)]] w fun e w' => e = .returned (.tuple #[.int .i64 (T.has (M.mem x) (((T.drain M k).mem x).getD 0) 0), .int .i64 (T.er (M.mem x))]) ∧ ∃ t' us', TV B w' b (T.has (M.mem x) (T.swap M k x (wrap64 (((T.drain M k).mem x).getD 0 + r))) M) (K + 11) t' bm g cap ev us' ∧ St t t' w w' := by
  have c1 := h.c1
  have hbl := h.bl
  have HM : Hid (Calls Tryd.prog 37 #[.pointer (some ⟨bm, 0, none⟩), .int .i64 x] w fun e w' => e = .returned (.tuple #[.int .i64 ((M.mem x).getD 0), .int .i64 (T.er (M.mem x))]) ∧ MP B w' bm M.mem (K + 1) t ∧ On t 2 w w') := mp_load h.mem x hx (by omega) h.hB
  have HV : Hid (TV B w b M K t bm g cap ev us) := h
  have HQ : Hid (q = k * 13) := hq
  have HOK : Hid (WsOk (M.th k).ws) := hok
  have hrl : rb < w.heap.size := World.block_lt_of_cell? w ⟨rb, 2, none⟩ hc
  have HD : Hid (((T.drain M k).mem x).isSome = (M.mem x).isSome) := T.upds_some _ _ _
  clear h hq hok
  cases em : M.mem x with
  | none =>
    rw [em] at HM
    clear em HD
    simp only [T.er, Option.getD_none] at HM
    simp only [T.er, T.has]
    go_enter Tryd.func80, Tryd.ntmps80
    go_wp2_with fail
    refine HM.out.mono ?_
    rintro e y2 ⟨rfl, hm, hon⟩
    have HV2 : Hid (TV B y2 b M (K + 1) t bm g cap ev us) := HV.out.memop hon hm
    have HS2 : Hid (St t t w y2) := hon.st (by decide)
    clear hm hon
    go_wp2
    go_ret2
    exact ⟨rfl, t, us, HV2.out.mono (by omega), HS2.out⟩
  | some v0 =>
    rw [em] at HM HD
    clear em
    simp only [T.er, Option.getD_some] at HM
    simp only [T.er, T.has]
    obtain ⟨dv, hdv⟩ : ∃ dv, (T.drain M k).mem x = some dv := Option.isSome_iff_exists.1 HD.out
    rw [hdv]
    simp only [Option.getD_some]
    have HDV : Hid ((T.drain M k).mem x = some dv) := hdv
    clear hdv
    go_enter Tryd.func80, Tryd.ntmps80
    go_wp2_with fail
    refine HM.out.mono ?_
    rintro e y2 ⟨rfl, hm, hon⟩
    have HV2 : Hid (TV B y2 b M (K + 1) t bm g cap ev us) := HV.out.memop hon hm
    have HS2 : Hid (St t t w y2) := hon.st (by decide)
    have HL : Hid (Calls Tryd.prog 83 #[.pointer (some ⟨b, 0, none⟩), .pointer (some ⟨g, q, none⟩)] y2 fun e w' => e = .returned (.tuple #[]) ∧ ∃ t' us', TV B w' b (T.drain M k) (K + 1 + (M.th k).ws.length) t' bm g cap ev us' ∧ St t t' y2 w') := leaveAll_any HV2.out hk HQ.out HOK.out (by omega)
    clear hm hon c1
    go_wp2_with fail
    refine HL.out.mono ?_
    rintro e y3 ⟨rfl, t1, us1, hv3, hs3⟩
    have HV3 : Hid (TV B y3 b (T.drain M k) (K + 1 + (M.th k).ws.length) t1 bm g cap ev us1) := hv3
    have HS3 : Hid (St t t1 w y3) := HS2.out.trans hs3
    have c13 := hv3.c1
    have hm3 := mp_load hv3.mem x hx (by omega) hv3.hB
    rw [HDV.out] at hm3
    have HM3 : Hid (Calls Tryd.prog 37 #[.pointer (some ⟨bm, 0, none⟩), .int .i64 x] y3 fun e w' => e = .returned (.tuple #[.int .i64 dv, .int .i64 0]) ∧ MP B w' bm (T.drain M k).mem (K + 1 + (M.th k).ws.length + 1) t1 ∧ On t1 2 y3 w') := hm3
    clear hv3 hs3 hm3 HL HM
    go_wp2_with fail
    refine HM3.out.mono ?_
    rintro e y4 ⟨rfl, hm4, hon4⟩
    have HV4 : Hid (TV B y4 b (T.drain M k) (K + 1 + (M.th k).ws.length + 1) t1 bm g cap ev us1) := HV3.out.memop hon4 hm4
    have HS4 : Hid (St t t1 w y4) := HS3.out.trans (hon4.st (by decide))
    have cr4 : y4.cell? ⟨rb, 2, none⟩ = some (.int .i64 r) := blk_cell (p := ⟨rb, 2, none⟩) (HS4.out.block rb hrl hrb) hc
    have c14 := HV4.out.c1
    have HT1 : Hid (t1 rb = 0) := (HS4.out.tag rb hrl).trans hrb
    have hm5 := mp_store HV4.out.mem x (wrap64 (dv + r)) hx (wrap64_wf _) (by omega) HV4.out.hB
    rw [HDV.out] at hm5
    have HM5 : Hid (Calls Tryd.prog 47 #[.pointer (some ⟨bm, 0, none⟩), .int .i64 x, .int .i64 (wrap64 (dv + r))] y4.drew fun e w' => e = .returned (.int .i64 0) ∧ MP B w' bm (T.upd (T.drain M k).mem x (wrap64 (dv + r))) (K + 1 + (M.th k).ws.length + 1 + 1) t1 ∧ On t1 2 y4.drew w') := by
      have hm6 := mp_store (HV4.out.below (Below.refl _ _).drew).mem x (wrap64 (dv + r)) hx (wrap64_wf _) (by omega) (HV4.out.below (Below.refl _ _).drew).hB
      rw [HDV.out] at hm6
      exact hm6
    have HLT : Hid (Calls Tryd.prog 82 #[.int .i64 dv, .pointer (some ⟨rb, 0, none⟩)] y4.drew fun e w' => e = .returned (.int .i64 (wrap64 (dv + r))) ∧ w' = y4.drew) := lit2_any (w := y4.drew) cr4 dv
    have hrl4 : rb < y4.heap.size := World.block_lt_of_cell? y4 ⟨rb, 2, none⟩ cr4
    have HKK : Hid (∀ z : World, On t1 2 y4.drew z → z.cell? ⟨b, 1, none⟩ = some (.pointer (some ⟨bm, 0, none⟩)) ∧ z.cell? ⟨rb, 2, none⟩ = some (.int .i64 r)) := fun z hon => by
      have e1 := hon.block b HV4.out.bl (by rw [HV4.out.tb]; decide)
      have e2 := hon.block rb hrl4 (by rw [HT1.out]; decide)
      exact ⟨blk_cell (p := ⟨b, 1, none⟩) e1 c14, blk_cell (p := ⟨rb, 2, none⟩) e2 cr4⟩
    clear hm5 hm4 hon4 c13 hc
    go_wp2_with fail
    go_region_held3 (fun w' : World => w'.cell? ⟨b, 1, none⟩ = some (.pointer (some ⟨bm, 0, none⟩)) ∧ w'.cell? ⟨rb, 2, none⟩ = some (.int .i64 r)) (first | exact ⟨c14, cr4⟩ | exact HKK.out _ hon5) (first | (go_at_call 82; refine HLT.out.mono ?_; rintro e y5 ⟨rfl, rfl⟩) | (go_at_call 47; refine HM5.out.mono ?_; rintro e y5 ⟨rfl, hm5, hon5⟩))
    have HV5 : Hid (TV B y5 b (T.swap M k x (wrap64 (dv + r))) (K + 1 + (M.th k).ws.length + 1 + 1) t1 bm g cap ev us1) := (HV4.out.below (Below.refl _ _).drew).memop hon5 hm5
    have HS5 : Hid (St t t1 w y5) := HS4.out.trans ((St.ofBelow t1 (Below.refl _ _).drew).trans (hon5.st (by decide)))
    clear hm5 hon5
    go_wp2
    go_ret2
    exact ⟨rfl, t1, us1, HV5.out.mono (by omega), HS5.out⟩

end Go.Proofs.YtneclfaamgfoeaaDoor

/- What an instruction asks of memory, done. (Written by gen_ans.py.) -/
namespace Go.Proofs.YtneclfaamgfoeaaDoor
open Go.RowKit Go.Maps
set_option linter.unusedVariables false
set_option linter.unusedSimpArgs false

set_option maxRecDepth 100000 in
set_option maxHeartbeats 4000000 in
theorem ans_1 {B : Nat} {w : World} {b : Nat} {M : T.Mach} {K : Nat} {t : Nat → Nat} {bm g cap : Nat} {ev : Value} {us : List Value} (h : TV B w b M K t bm g cap ev us) {k p : Nat} (hk : k < M.ts.length) (hq : p = k * 13) (hok : WsOk (M.th k).ws) (h8 : (M.th k).ws.length ≤ 8) (hes : M.es.length ≤ 1000000) (qa qv qr : Int) (ha : (Lit.int .i64 qa).wf = true) (hv : (Lit.int .i64 qv).wf = true) (hK : K + 3000 < maxLen) :
    Calls Tryd.prog 59 #[.pointer (some ⟨b, 0, none⟩), .pointer (some ⟨g, p, none⟩), .agg #[.int .i64 1, .int .i64 qa, .int .i64 qv, .int .i64 qr]] w fun e w' => e = .returned (.tuple #[.int .i64 ((T.ld M k qa).getD 0), .int .i64 (T.er (T.ld M k qa))]) ∧ ∃ t' ev' us', TV B w' b (M) (K + 11) t' bm g cap ev' us' ∧ St t t' w w' := by
  obtain ⟨X1, hX1⟩ : ∃ X1, w.alloc (.cells #[.int .i64 1, .int .i64 qa, .int .i64 qv, .int .i64 qr] 110) = X1 := ⟨_, rfl⟩
  have b1 : Below w.heap.size w X1 := by subst hX1; exact bl_one _ _
  have x0 : X1.cell? ⟨w.heap.size, 0, none⟩ = some (.int .i64 1) := by subst hX1; exact cell_last _ _ _ _ _ rfl rfl
  have x1 : X1.cell? ⟨w.heap.size, 1, none⟩ = some (.int .i64 qa) := by subst hX1; exact cell_last _ _ _ _ _ rfl rfl
  have x2 : X1.cell? ⟨w.heap.size, 2, none⟩ = some (.int .i64 qv) := by subst hX1; exact cell_last _ _ _ _ _ rfl rfl
  have HV1 : Hid (TV B X1 b M K t bm g cap ev us) := h.below b1
  have HS1 : Hid (St t t w X1) := St.ofBelow t b1
  have HT0 : Hid (t w.heap.size = 0) := Classical.byContradiction fun e => by have := (h.lt _ e).2; omega
  have h0 := tload_any HV1.out hk hq hok.1 qa ha (by omega)
  generalize (T.ld M k qa).getD 0 = z1 at h0 ⊢
  generalize T.er (T.ld M k qa) = z2 at h0 ⊢
  have HL : Hid (Calls Tryd.prog 78 #[.pointer (some ⟨b, 0, none⟩), .pointer (some ⟨g, p, none⟩), .int .i64 qa] X1 fun e w' => e = .returned (.tuple #[.int .i64 z1, .int .i64 z2]) ∧ TV B w' b M (K + 1) t bm g cap ev us ∧ St t t X1 w') := h0
  clear h0
  clear h hq hok hes
  go_enter Tryd.func59, Tryd.ntmps59
  go_wp2_with fail
  refine HL.out.mono ?_
  rintro e y ⟨rfl, hv2, hs2⟩
  have HV2 : Hid (TV B y b M (K + 1) t bm g cap ev us) := hv2
  have HS2 : Hid (St t t X1 y) := hs2
  clear hv2 hs2
  go_wp2
  go_ret2
  exact ⟨rfl, t, ev, us, HV2.out.mono (by omega), HS1.out.trans HS2.out⟩

set_option maxRecDepth 100000 in
set_option maxHeartbeats 4000000 in
theorem ans_2 {B : Nat} {w : World} {b : Nat} {M : T.Mach} {K : Nat} {t : Nat → Nat} {bm g cap : Nat} {ev : Value} {us : List Value} (h : TV B w b M K t bm g cap ev us) {k p : Nat} (hk : k < M.ts.length) (hq : p = k * 13) (hok : WsOk (M.th k).ws) (h8 : (M.th k).ws.length ≤ 8) (hes : M.es.length ≤ 1000000) (qa qv qr : Int) (ha : (Lit.int .i64 qa).wf = true) (hv : (Lit.int .i64 qv).wf = true) (hK : K + 3000 < maxLen) :
    Calls Tryd.prog 59 #[.pointer (some ⟨b, 0, none⟩), .pointer (some ⟨g, p, none⟩), .agg #[.int .i64 2, .int .i64 qa, .int .i64 qv, .int .i64 qr]] w fun e w' => e = .returned (.tuple #[.int .i64 (0), .int .i64 (T.er (M.mem qa))]) ∧ ∃ t' ev' us', TV B w' b (T.has (M.mem qa) (T.push (T.full M k) k qa qv) M) (K + 11) t' bm g cap ev' us' ∧ St t t' w w' := by
  obtain ⟨X1, hX1⟩ : ∃ X1, w.alloc (.cells #[.int .i64 2, .int .i64 qa, .int .i64 qv, .int .i64 qr] 110) = X1 := ⟨_, rfl⟩
  have b1 : Below w.heap.size w X1 := by subst hX1; exact bl_one _ _
  have x0 : X1.cell? ⟨w.heap.size, 0, none⟩ = some (.int .i64 2) := by subst hX1; exact cell_last _ _ _ _ _ rfl rfl
  have x1 : X1.cell? ⟨w.heap.size, 1, none⟩ = some (.int .i64 qa) := by subst hX1; exact cell_last _ _ _ _ _ rfl rfl
  have x2 : X1.cell? ⟨w.heap.size, 2, none⟩ = some (.int .i64 qv) := by subst hX1; exact cell_last _ _ _ _ _ rfl rfl
  have HV1 : Hid (TV B X1 b M K t bm g cap ev us) := h.below b1
  have HS1 : Hid (St t t w X1) := St.ofBelow t b1
  have HT0 : Hid (t w.heap.size = 0) := Classical.byContradiction fun e => by have := (h.lt _ e).2; omega
  have h0 := tstore_any HV1.out hk hq hok h8 qa qv ha (by omega)
  generalize T.has (M.mem qa) (T.push (T.full M k) k qa qv) M = M2 at h0 ⊢
  generalize T.er (M.mem qa) = z2 at h0 ⊢
  have HL : Hid (Calls Tryd.prog 79 #[.pointer (some ⟨b, 0, none⟩), .pointer (some ⟨g, p, none⟩), .int .i64 qa, .int .i64 qv] X1 fun e w' => e = .returned (.int .i64 z2) ∧ ∃ t' us', TV B w' b M2 (K + 2) t' bm g cap ev us' ∧ St t t' X1 w') := h0
  clear h0
  clear h hq hok hes
  go_enter Tryd.func59, Tryd.ntmps59
  go_wp2_with fail
  refine HL.out.mono ?_
  rintro e y ⟨rfl, t2, us2, hv2, hs2⟩
  have HV2 : Hid (TV B y b M2 (K + 2) t2 bm g cap ev us2) := hv2
  have HS2 : Hid (St t t2 X1 y) := hs2
  clear hv2 hs2
  go_wp2
  go_ret2
  exact ⟨rfl, t2, ev, us2, HV2.out.mono (by omega), HS1.out.trans HS2.out⟩

set_option maxRecDepth 100000 in
set_option maxHeartbeats 4000000 in
theorem ans_3 {B : Nat} {w : World} {b : Nat} {M : T.Mach} {K : Nat} {t : Nat → Nat} {bm g cap : Nat} {ev : Value} {us : List Value} (h : TV B w b M K t bm g cap ev us) {k p : Nat} (hk : k < M.ts.length) (hq : p = k * 13) (hok : WsOk (M.th k).ws) (h8 : (M.th k).ws.length ≤ 8) (hes : M.es.length ≤ 1000000) (qa qv qr : Int) (ha : (Lit.int .i64 qa).wf = true) (hv : (Lit.int .i64 qv).wf = true) (hK : K + 3000 < maxLen) :
    Calls Tryd.prog 59 #[.pointer (some ⟨b, 0, none⟩), .pointer (some ⟨g, p, none⟩), .agg #[.int .i64 3, .int .i64 qa, .int .i64 qv, .int .i64 qr]] w fun e w' => e = .returned (.tuple #[.int .i64 (T.has (M.mem qa) (((T.drain M k).mem qa).getD 0) 0), .int .i64 (T.er (M.mem qa))]) ∧ ∃ t' ev' us', TV B w' b (T.has (M.mem qa) (T.swap M k qa qv) M) (K + 11) t' bm g cap ev' us' ∧ St t t' w w' := by
  obtain ⟨X1, hX1⟩ : ∃ X1, w.alloc (.cells #[.int .i64 3, .int .i64 qa, .int .i64 qv, .int .i64 qr] 110) = X1 := ⟨_, rfl⟩
  have b1 : Below w.heap.size w X1 := by subst hX1; exact bl_one _ _
  have x0 : X1.cell? ⟨w.heap.size, 0, none⟩ = some (.int .i64 3) := by subst hX1; exact cell_last _ _ _ _ _ rfl rfl
  have x1 : X1.cell? ⟨w.heap.size, 1, none⟩ = some (.int .i64 qa) := by subst hX1; exact cell_last _ _ _ _ _ rfl rfl
  have x2 : X1.cell? ⟨w.heap.size, 2, none⟩ = some (.int .i64 qv) := by subst hX1; exact cell_last _ _ _ _ _ rfl rfl
  have HV1 : Hid (TV B X1 b M K t bm g cap ev us) := h.below b1
  have HS1 : Hid (St t t w X1) := St.ofBelow t b1
  have HT0 : Hid (t w.heap.size = 0) := Classical.byContradiction fun e => by have := (h.lt _ e).2; omega
  have h0 := texch1_any HV1.out hk hq hok h8 qa qv ha hv x2 HT0.out (by omega)
  generalize T.has (M.mem qa) (T.swap M k qa qv) M = M2 at h0 ⊢
  generalize T.has (M.mem qa) (((T.drain M k).mem qa).getD 0) 0 = z1 at h0 ⊢
  generalize T.er (M.mem qa) = z2 at h0 ⊢
  have HL : Hid (Calls Tryd.prog 80 #[.pointer (some ⟨b, 0, none⟩), .pointer (some ⟨g, p, none⟩), .int .i64 qa, .func (.func 81) #[] #[.pointer (some ⟨w.heap.size, 0, none⟩)]] X1 fun e w' => e = .returned (.tuple #[.int .i64 z1, .int .i64 z2]) ∧ ∃ t' us', TV B w' b M2 (K + 11) t' bm g cap ev us' ∧ St t t' X1 w') := h0
  clear h0
  clear h hq hok hes
  go_enter Tryd.func59, Tryd.ntmps59
  go_wp2_with fail
  refine HL.out.mono ?_
  rintro e y ⟨rfl, t2, us2, hv2, hs2⟩
  have HV2 : Hid (TV B y b M2 (K + 11) t2 bm g cap ev us2) := hv2
  have HS2 : Hid (St t t2 X1 y) := hs2
  clear hv2 hs2
  go_wp2
  go_ret2
  exact ⟨rfl, t2, ev, us2, HV2.out.mono (by omega), HS1.out.trans HS2.out⟩

set_option maxRecDepth 100000 in
set_option maxHeartbeats 4000000 in
theorem ans_4 {B : Nat} {w : World} {b : Nat} {M : T.Mach} {K : Nat} {t : Nat → Nat} {bm g cap : Nat} {ev : Value} {us : List Value} (h : TV B w b M K t bm g cap ev us) {k p : Nat} (hk : k < M.ts.length) (hq : p = k * 13) (hok : WsOk (M.th k).ws) (h8 : (M.th k).ws.length ≤ 8) (hes : M.es.length ≤ 1000000) (qa qv qr : Int) (ha : (Lit.int .i64 qa).wf = true) (hv : (Lit.int .i64 qv).wf = true) (hK : K + 3000 < maxLen) :
    Calls Tryd.prog 59 #[.pointer (some ⟨b, 0, none⟩), .pointer (some ⟨g, p, none⟩), .agg #[.int .i64 4, .int .i64 qa, .int .i64 qv, .int .i64 qr]] w fun e w' => e = .returned (.tuple #[.int .i64 (T.has (M.mem qa) (((T.drain M k).mem qa).getD 0) 0), .int .i64 (T.er (M.mem qa))]) ∧ ∃ t' ev' us', TV B w' b (T.has (M.mem qa) (T.swap M k qa (wrap64 (((T.drain M k).mem qa).getD 0 + qv))) M) (K + 11) t' bm g cap ev' us' ∧ St t t' w w' := by
  obtain ⟨X1, hX1⟩ : ∃ X1, w.alloc (.cells #[.int .i64 4, .int .i64 qa, .int .i64 qv, .int .i64 qr] 110) = X1 := ⟨_, rfl⟩
  have b1 : Below w.heap.size w X1 := by subst hX1; exact bl_one _ _
  have x0 : X1.cell? ⟨w.heap.size, 0, none⟩ = some (.int .i64 4) := by subst hX1; exact cell_last _ _ _ _ _ rfl rfl
  have x1 : X1.cell? ⟨w.heap.size, 1, none⟩ = some (.int .i64 qa) := by subst hX1; exact cell_last _ _ _ _ _ rfl rfl
  have x2 : X1.cell? ⟨w.heap.size, 2, none⟩ = some (.int .i64 qv) := by subst hX1; exact cell_last _ _ _ _ _ rfl rfl
  have HV1 : Hid (TV B X1 b M K t bm g cap ev us) := h.below b1
  have HS1 : Hid (St t t w X1) := St.ofBelow t b1
  have HT0 : Hid (t w.heap.size = 0) := Classical.byContradiction fun e => by have := (h.lt _ e).2; omega
  have h0 := texch2_any HV1.out hk hq hok h8 qa qv ha hv x2 HT0.out (by omega)
  generalize T.has (M.mem qa) (T.swap M k qa (wrap64 (((T.drain M k).mem qa).getD 0 + qv))) M = M2 at h0 ⊢
  generalize T.has (M.mem qa) (((T.drain M k).mem qa).getD 0) 0 = z1 at h0 ⊢
  generalize T.er (M.mem qa) = z2 at h0 ⊢
  have HL : Hid (Calls Tryd.prog 80 #[.pointer (some ⟨b, 0, none⟩), .pointer (some ⟨g, p, none⟩), .int .i64 qa, .func (.func 82) #[] #[.pointer (some ⟨w.heap.size, 0, none⟩)]] X1 fun e w' => e = .returned (.tuple #[.int .i64 z1, .int .i64 z2]) ∧ ∃ t' us', TV B w' b M2 (K + 11) t' bm g cap ev us' ∧ St t t' X1 w') := h0
  clear h0
  clear h hq hok hes
  go_enter Tryd.func59, Tryd.ntmps59
  go_wp2_with fail
  refine HL.out.mono ?_
  rintro e y ⟨rfl, t2, us2, hv2, hs2⟩
  have HV2 : Hid (TV B y b M2 (K + 11) t2 bm g cap ev us2) := hv2
  have HS2 : Hid (St t t2 X1 y) := hs2
  clear hv2 hs2
  go_wp2
  go_ret2
  exact ⟨rfl, t2, ev, us2, HV2.out.mono (by omega), HS1.out.trans HS2.out⟩

set_option maxRecDepth 100000 in
set_option maxHeartbeats 4000000 in
theorem ans_5 {B : Nat} {w : World} {b : Nat} {M : T.Mach} {K : Nat} {t : Nat → Nat} {bm g cap : Nat} {ev : Value} {us : List Value} (h : TV B w b M K t bm g cap ev us) {k p : Nat} (hk : k < M.ts.length) (hq : p = k * 13) (hok : WsOk (M.th k).ws) (h8 : (M.th k).ws.length ≤ 8) (hes : M.es.length ≤ 1000000) (qa qv qr : Int) (ha : (Lit.int .i64 qa).wf = true) (hv : (Lit.int .i64 qv).wf = true) (hK : K + 3000 < maxLen) :
    Calls Tryd.prog 59 #[.pointer (some ⟨b, 0, none⟩), .pointer (some ⟨g, p, none⟩), .agg #[.int .i64 5, .int .i64 qa, .int .i64 qv, .int .i64 qr]] w fun e w' => e = .returned (.tuple #[.int .i64 (0), .int .i64 (0)]) ∧ ∃ t' ev' us', TV B w' b (T.drain M k) (K + 11) t' bm g cap ev' us' ∧ St t t' w w' := by
  obtain ⟨X1, hX1⟩ : ∃ X1, w.alloc (.cells #[.int .i64 5, .int .i64 qa, .int .i64 qv, .int .i64 qr] 110) = X1 := ⟨_, rfl⟩
  have b1 : Below w.heap.size w X1 := by subst hX1; exact bl_one _ _
  have x0 : X1.cell? ⟨w.heap.size, 0, none⟩ = some (.int .i64 5) := by subst hX1; exact cell_last _ _ _ _ _ rfl rfl
  have x1 : X1.cell? ⟨w.heap.size, 1, none⟩ = some (.int .i64 qa) := by subst hX1; exact cell_last _ _ _ _ _ rfl rfl
  have x2 : X1.cell? ⟨w.heap.size, 2, none⟩ = some (.int .i64 qv) := by subst hX1; exact cell_last _ _ _ _ _ rfl rfl
  have HV1 : Hid (TV B X1 b M K t bm g cap ev us) := h.below b1
  have HS1 : Hid (St t t w X1) := St.ofBelow t b1
  have HT0 : Hid (t w.heap.size = 0) := Classical.byContradiction fun e => by have := (h.lt _ e).2; omega
  have h0 := leaveAll_any HV1.out hk hq hok (by omega)
  generalize T.drain M k = M2 at h0 ⊢
  have HL : Hid (Calls Tryd.prog 83 #[.pointer (some ⟨b, 0, none⟩), .pointer (some ⟨g, p, none⟩)] X1 fun e w' => e = .returned (.tuple #[]) ∧ ∃ t' us', TV B w' b M2 (K + (M.th k).ws.length) t' bm g cap ev us' ∧ St t t' X1 w') := h0
  clear h0
  clear h hq hok hes
  go_enter Tryd.func59, Tryd.ntmps59
  go_wp2_with fail
  refine HL.out.mono ?_
  rintro e y ⟨rfl, t2, us2, hv2, hs2⟩
  have HV2 : Hid (TV B y b M2 (K + 11) t2 bm g cap ev us2) := hv2.mono (by omega)
  have HS2 : Hid (St t t2 X1 y) := hs2
  clear hv2 hs2
  go_wp2
  go_ret2
  exact ⟨rfl, t2, ev, us2, HV2.out, HS1.out.trans HS2.out⟩

set_option maxRecDepth 100000 in
set_option maxHeartbeats 4000000 in
theorem ans_6 {B : Nat} {w : World} {b : Nat} {M : T.Mach} {K : Nat} {t : Nat → Nat} {bm g cap : Nat} {ev : Value} {us : List Value} (h : TV B w b M K t bm g cap ev us) {k p : Nat} (hk : k < M.ts.length) (hq : p = k * 13) (hok : WsOk (M.th k).ws) (h8 : (M.th k).ws.length ≤ 8) (hes : M.es.length ≤ 1000000) (qa qv qr : Int) (ha : (Lit.int .i64 qa).wf = true) (hv : (Lit.int .i64 qv).wf = true) (hK : K + 3000 < maxLen) :
    Calls Tryd.prog 59 #[.pointer (some ⟨b, 0, none⟩), .pointer (some ⟨g, p, none⟩), .agg #[.int .i64 6, .int .i64 qa, .int .i64 qv, .int .i64 qr]] w fun e w' => e = .returned (.tuple #[.int .i64 (0), .int .i64 (0)]) ∧ ∃ t' ev' us', TV B w' b (M.see k 1 qv) (K + 11) t' bm g cap ev' us' ∧ St t t' w w' := by
  obtain ⟨X1, hX1⟩ : ∃ X1, w.alloc (.cells #[.int .i64 6, .int .i64 qa, .int .i64 qv, .int .i64 qr] 110) = X1 := ⟨_, rfl⟩
  have b1 : Below w.heap.size w X1 := by subst hX1; exact bl_one _ _
  have x0 : X1.cell? ⟨w.heap.size, 0, none⟩ = some (.int .i64 6) := by subst hX1; exact cell_last _ _ _ _ _ rfl rfl
  have x1 : X1.cell? ⟨w.heap.size, 1, none⟩ = some (.int .i64 qa) := by subst hX1; exact cell_last _ _ _ _ _ rfl rfl
  have x2 : X1.cell? ⟨w.heap.size, 2, none⟩ = some (.int .i64 qv) := by subst hX1; exact cell_last _ _ _ _ _ rfl rfl
  have HV1 : Hid (TV B X1 b M K t bm g cap ev us) := h.below b1
  have HS1 : Hid (St t t w X1) := St.ofBelow t b1
  have HT0 : Hid (t w.heap.size = 0) := Classical.byContradiction fun e => by have := (h.lt _ e).2; omega
  have h0 := see_any HV1.out hk hq 1 qv hes
  generalize M.see k 1 qv = M2 at h0 ⊢
  have HL : Hid (Calls Tryd.prog 46 #[.pointer (some ⟨b, 0, none⟩), .pointer (some ⟨g, p, none⟩), .int .i64 1, .int .i64 qv] X1 fun e w' => e = .returned (.tuple #[]) ∧ ∃ t' ev', TV B w' b M2 K t' bm g cap ev' us ∧ St t t' X1 w') := h0
  clear h0
  clear h hq hok hes
  go_enter Tryd.func59, Tryd.ntmps59
  go_wp2_with fail
  refine HL.out.mono ?_
  rintro e y ⟨rfl, t2, ev2, hv2, hs2⟩
  have HV2 : Hid (TV B y b M2 (K + 11) t2 bm g cap ev2 us) := hv2.mono (by omega)
  have HS2 : Hid (St t t2 X1 y) := hs2
  clear hv2 hs2
  go_wp2
  go_ret2
  exact ⟨rfl, t2, ev2, us, HV2.out, HS1.out.trans HS2.out⟩

set_option maxRecDepth 100000 in
set_option maxHeartbeats 4000000 in
theorem ans_0 {B : Nat} {w : World} {b : Nat} {M : T.Mach} {K : Nat} {t : Nat → Nat} {bm g cap : Nat} {ev : Value} {us : List Value} (h : TV B w b M K t bm g cap ev us) {k p : Nat} (hk : k < M.ts.length) (hq : p = k * 13) (hok : WsOk (M.th k).ws) (h8 : (M.th k).ws.length ≤ 8) (hes : M.es.length ≤ 1000000) (qa qv qr : Int) (ha : (Lit.int .i64 qa).wf = true) (hv : (Lit.int .i64 qv).wf = true) (hK : K + 3000 < maxLen) (qk : Int) (n1 : ¬ qk = 1) (n2 : ¬ qk = 2) (n3 : ¬ qk = 3) (n4 : ¬ qk = 4) (n5 : ¬ qk = 5) (n6 : ¬ qk = 6) :
    Calls Tryd.prog 59 #[.pointer (some ⟨b, 0, none⟩), .pointer (some ⟨g, p, none⟩), .agg #[.int .i64 qk, .int .i64 qa, .int .i64 qv, .int .i64 qr]] w fun e w' => e = .returned (.tuple #[.int .i64 (0), .int .i64 (0)]) ∧ ∃ t' ev' us', TV B w' b (M) (K + 11) t' bm g cap ev' us' ∧ St t t' w w' := by
  obtain ⟨X1, hX1⟩ : ∃ X1, w.alloc (.cells #[.int .i64 qk, .int .i64 qa, .int .i64 qv, .int .i64 qr] 110) = X1 := ⟨_, rfl⟩
  have b1 : Below w.heap.size w X1 := by subst hX1; exact bl_one _ _
  have x0 : X1.cell? ⟨w.heap.size, 0, none⟩ = some (.int .i64 qk) := by subst hX1; exact cell_last _ _ _ _ _ rfl rfl
  have x1 : X1.cell? ⟨w.heap.size, 1, none⟩ = some (.int .i64 qa) := by subst hX1; exact cell_last _ _ _ _ _ rfl rfl
  have x2 : X1.cell? ⟨w.heap.size, 2, none⟩ = some (.int .i64 qv) := by subst hX1; exact cell_last _ _ _ _ _ rfl rfl
  have HV1 : Hid (TV B X1 b M K t bm g cap ev us) := h.below b1
  have HS1 : Hid (St t t w X1) := St.ofBelow t b1
  have HT0 : Hid (t w.heap.size = 0) := Classical.byContradiction fun e => by have := (h.lt _ e).2; omega
  clear h hq hok hes
  go_enter Tryd.func59, Tryd.ntmps59
  go_wp2
  go_ret2
  exact ⟨rfl, t, ev, us, HV1.out.mono (by omega), HS1.out⟩

theorem answer_any {B : Nat} {w : World} {b : Nat} {M : T.Mach} {K : Nat} {t : Nat → Nat} {bm g cap : Nat} {ev : Value} {us : List Value} (h : TV B w b M K t bm g cap ev us) {k p : Nat} (hk : k < M.ts.length) (hq : p = k * 13) (hok : WsOk (M.th k).ws) (h8 : (M.th k).ws.length ≤ 8) (hes : M.es.length ≤ 1000000) (qa qv qr : Int) (ha : (Lit.int .i64 qa).wf = true) (hv : (Lit.int .i64 qv).wf = true) (hK : K + 3000 < maxLen) (qk : Int) :
    Calls Tryd.prog 59 #[.pointer (some ⟨b, 0, none⟩), .pointer (some ⟨g, p, none⟩), .agg #[.int .i64 qk, .int .i64 qa, .int .i64 qv, .int .i64 qr]] w fun e w' => e = .returned (.tuple #[.int .i64 (T.ansN M k ⟨qk, qa, qv, qr⟩), .int .i64 (T.ansE M k ⟨qk, qa, qv, qr⟩)]) ∧ ∃ t' ev' us', TV B w' b (T.ansM M k ⟨qk, qa, qv, qr⟩) (K + 11) t' bm g cap ev' us' ∧ St t t' w w' := by
  by_cases n1 : qk = 1
  · subst n1; exact ans_1 h hk hq hok h8 hes qa qv qr ha hv hK
  by_cases n2 : qk = 2
  · subst n2; exact ans_2 h hk hq hok h8 hes qa qv qr ha hv hK
  by_cases n3 : qk = 3
  · subst n3; exact ans_3 h hk hq hok h8 hes qa qv qr ha hv hK
  by_cases n4 : qk = 4
  · subst n4; exact ans_4 h hk hq hok h8 hes qa qv qr ha hv hK
  by_cases n5 : qk = 5
  · subst n5; exact ans_5 h hk hq hok h8 hes qa qv qr ha hv hK
  by_cases n6 : qk = 6
  · subst n6; exact ans_6 h hk hq hok h8 hes qa qv qr ha hv hK
  have e1 : T.ansN M k ⟨qk, qa, qv, qr⟩ = 0 := by simp [T.ansN, n1, n3, n4]
  have e2 : T.ansE M k ⟨qk, qa, qv, qr⟩ = 0 := by simp [T.ansE, n1, n2, n3, n4]
  have e3 : T.ansM M k ⟨qk, qa, qv, qr⟩ = M := by simp [T.ansM, n2, n3, n4, n5, n6]
  rw [e1, e2, e3]
  exact ans_0 h hk hq hok h8 hes qa qv qr ha hv hK qk n1 n2 n3 n4 n5 n6

end Go.Proofs.YtneclfaamgfoeaaDoor

/- An instruction is done. (Written by gen_ins.py.) -/
namespace Go.Proofs.YtneclfaamgfoeaaDoor
open Go.RowKit Go.Maps
set_option linter.unusedVariables false
set_option linter.unusedSimpArgs false

theorem Tab.of {t t' : Nat → Nat} {w w' : World} (h : Tab w) (hs : St t t' w w') (h0 : t 0 = 0) (h1 : t 1 = 0) : Tab w' :=
  ⟨fun o => (World.cell?_of_block (a := ⟨0, o, none⟩) (hs.block 0 (by have := h.2.2; omega) h0)).trans (h.1 o), fun o => (World.cell?_of_block (a := ⟨1, o, none⟩) (hs.block 1 (by have := h.2.2; omega) h1)).trans (h.2.1 o), Nat.le_trans h.2.2 hs.size⟩

/-- A machine has become this one. -/
def Gone (B : Nat) (w w' : World) (b : Nat) (M : T.Mach) (K : Nat) (t : Nat → Nat) (bm g cap : Nat) : Prop := ∃ t' ev' us', TV B w' b M K t' bm g cap ev' us' ∧ St t t' w w'

section
variable {B : Nat} {w w' : World} {b : Nat} {M : T.Mach} {K : Nat} {t t' : Nat → Nat} {bm g cap : Nat} {ev : Value} {us : List Value}
theorem TV.reg1 {k : Nat} {u : Value} {x x' : S.C} {ws : List T.Wait} (h : TV B w b (M.put k M.mem ⟨x, ws⟩) K t bm g cap ev us) (hk : k < M.ts.length) (hu : us[k]? = some u) (j : Nat) (v : Value) (hj : j < 13) (hc : thC k ⟨x', ws⟩ u = (thC k ⟨x, ws⟩ u).set j v) :
    TV B (w.setCell ⟨g, k * 13 + j, none⟩ v) b (M.put k M.mem ⟨x', ws⟩) K t bm g cap ev us ∧ St t t w (w.setCell ⟨g, k * 13 + j, none⟩ v) := by
  have f := T.th_put hk M.mem ⟨x, ws⟩
  obtain ⟨q, a⟩ := h.reg (h' := ⟨x', ws⟩) (by rw [T.len_put]; exact hk) hu j v hj (by rw [f]) (by rw [f]; exact hc)
  rw [T.put_put] at q
  exact ⟨q, a⟩
/-- All of a thread's registers were stored over. -/
theorem TV.regs {k p : Nat} (h : TV B w b M K t bm g cap ev us) (hk : k < M.ts.length) (hp : p = k * 13) (d : S.C) :
    TV B (((((((((((w.setCell ⟨g, p, none⟩ (.int .i64 d.r0)).setCell ⟨g, p + 1, none⟩ (.int .i64 d.r1)).setCell ⟨g, p + 2, none⟩ (.int .i64 d.r2)).setCell ⟨g, p + 3, none⟩ (.int .i64 d.r3)).setCell ⟨g, p + 4, none⟩ (.int .i64 d.r4)).setCell ⟨g, p + 5, none⟩ (.int .i64 d.r5)).setCell ⟨g, p + 6, none⟩ (.int .i64 d.r6)).setCell ⟨g, p + 7, none⟩ (.int .i64 d.r7)).setCell ⟨g, p + 8, none⟩ (.int .i64 d.pc)).setCell ⟨g, p + 9, none⟩ (.int .i64 d.st)).setCell ⟨g, p + 10, none⟩ (.int .i64 d.tr)) b (T.setC M k d) K t bm g cap ev us ∧ St t t w (((((((((((w.setCell ⟨g, p, none⟩ (.int .i64 d.r0)).setCell ⟨g, p + 1, none⟩ (.int .i64 d.r1)).setCell ⟨g, p + 2, none⟩ (.int .i64 d.r2)).setCell ⟨g, p + 3, none⟩ (.int .i64 d.r3)).setCell ⟨g, p + 4, none⟩ (.int .i64 d.r4)).setCell ⟨g, p + 5, none⟩ (.int .i64 d.r5)).setCell ⟨g, p + 6, none⟩ (.int .i64 d.r6)).setCell ⟨g, p + 7, none⟩ (.int .i64 d.r7)).setCell ⟨g, p + 8, none⟩ (.int .i64 d.pc)).setCell ⟨g, p + 9, none⟩ (.int .i64 d.st)).setCell ⟨g, p + 10, none⟩ (.int .i64 d.tr)) := by
  subst hp
  obtain ⟨u, hu⟩ := h.u hk
  have s0 : St t t w w := St.refl t w
  have e0 : M.th k = ⟨(M.th k).c, (M.th k).ws⟩ := rfl
  have q0 : TV B w b (M.put k M.mem ⟨(M.th k).c, (M.th k).ws⟩) K t bm g cap ev us := by rw [← e0, T.put_same hk]; exact h
  obtain ⟨q1, a1⟩ := q0.reg1 (x' := ⟨d.r0, (M.th k).c.r1, (M.th k).c.r2, (M.th k).c.r3, (M.th k).c.r4, (M.th k).c.r5, (M.th k).c.r6, (M.th k).c.r7, (M.th k).c.pc, (M.th k).c.st, (M.th k).c.tr⟩) hk hu 0 (.int .i64 d.r0) (by decide) rfl
  have s1 := s0.trans a1
  obtain ⟨q2, a2⟩ := q1.reg1 (x' := ⟨d.r0, d.r1, (M.th k).c.r2, (M.th k).c.r3, (M.th k).c.r4, (M.th k).c.r5, (M.th k).c.r6, (M.th k).c.r7, (M.th k).c.pc, (M.th k).c.st, (M.th k).c.tr⟩) hk hu 1 (.int .i64 d.r1) (by decide) rfl
  have s2 := s1.trans a2
  obtain ⟨q3, a3⟩ := q2.reg1 (x' := ⟨d.r0, d.r1, d.r2, (M.th k).c.r3, (M.th k).c.r4, (M.th k).c.r5, (M.th k).c.r6, (M.th k).c.r7, (M.th k).c.pc, (M.th k).c.st, (M.th k).c.tr⟩) hk hu 2 (.int .i64 d.r2) (by decide) rfl
  have s3 := s2.trans a3
  obtain ⟨q4, a4⟩ := q3.reg1 (x' := ⟨d.r0, d.r1, d.r2, d.r3, (M.th k).c.r4, (M.th k).c.r5, (M.th k).c.r6, (M.th k).c.r7, (M.th k).c.pc, (M.th k).c.st, (M.th k).c.tr⟩) hk hu 3 (.int .i64 d.r3) (by decide) rfl
  have s4 := s3.trans a4
  obtain ⟨q5, a5⟩ := q4.reg1 (x' := ⟨d.r0, d.r1, d.r2, d.r3, d.r4, (M.th k).c.r5, (M.th k).c.r6, (M.th k).c.r7, (M.th k).c.pc, (M.th k).c.st, (M.th k).c.tr⟩) hk hu 4 (.int .i64 d.r4) (by decide) rfl
  have s5 := s4.trans a5
  obtain ⟨q6, a6⟩ := q5.reg1 (x' := ⟨d.r0, d.r1, d.r2, d.r3, d.r4, d.r5, (M.th k).c.r6, (M.th k).c.r7, (M.th k).c.pc, (M.th k).c.st, (M.th k).c.tr⟩) hk hu 5 (.int .i64 d.r5) (by decide) rfl
  have s6 := s5.trans a6
  obtain ⟨q7, a7⟩ := q6.reg1 (x' := ⟨d.r0, d.r1, d.r2, d.r3, d.r4, d.r5, d.r6, (M.th k).c.r7, (M.th k).c.pc, (M.th k).c.st, (M.th k).c.tr⟩) hk hu 6 (.int .i64 d.r6) (by decide) rfl
  have s7 := s6.trans a7
  obtain ⟨q8, a8⟩ := q7.reg1 (x' := ⟨d.r0, d.r1, d.r2, d.r3, d.r4, d.r5, d.r6, d.r7, (M.th k).c.pc, (M.th k).c.st, (M.th k).c.tr⟩) hk hu 7 (.int .i64 d.r7) (by decide) rfl
  have s8 := s7.trans a8
  obtain ⟨q9, a9⟩ := q8.reg1 (x' := ⟨d.r0, d.r1, d.r2, d.r3, d.r4, d.r5, d.r6, d.r7, d.pc, (M.th k).c.st, (M.th k).c.tr⟩) hk hu 8 (.int .i64 d.pc) (by decide) rfl
  have s9 := s8.trans a9
  obtain ⟨q10, a10⟩ := q9.reg1 (x' := ⟨d.r0, d.r1, d.r2, d.r3, d.r4, d.r5, d.r6, d.r7, d.pc, d.st, (M.th k).c.tr⟩) hk hu 9 (.int .i64 d.st) (by decide) rfl
  have s10 := s9.trans a10
  obtain ⟨q11, a11⟩ := q10.reg1 (x' := ⟨d.r0, d.r1, d.r2, d.r3, d.r4, d.r5, d.r6, d.r7, d.pc, d.st, d.tr⟩) hk hu 10 (.int .i64 d.tr) (by decide) rfl
  have s11 := s10.trans a11
  exact ⟨q11, s11⟩
end

set_option maxRecDepth 100000 in
set_option maxHeartbeats 8000000 in
theorem doins_code {B : Nat} {w : World} {b : Nat} {M : T.Mach} {K : Nat} {t : Nat → Nat} {bm g cap : Nat} {ev : Value} {us : List Value} (h : TV B w b M K t bm g cap ev us) {k p : Nat} (hk : k < M.ts.length) (hq : p = k * 13) (hok : WsOk (M.th k).ws) (h8 : (M.th k).ws.length ≤ 8) (hes : M.es.length ≤ 1000000) (hK : K + 3000 < maxLen) (ht : Tab w) (hB2 : 2 ≤ B) (hcode : M.code.size ≤ 65536) (hd : T.decOk M.code (T.plc M k) = false) :
    Calls Tryd.prog 45 #[.pointer (some ⟨b, 0, none⟩), .pointer (some ⟨g, p, none⟩)] w fun e w' => e = .returned (.tuple #[]) ∧ Gone B w w' b (T.setC M k (T.trapC (M.th k).c 3)) (K + 11) t bm g cap := by
  obtain ⟨u, hu⟩ := h.u hk
  have d8 := h.cell hk hu 8 _ rfl
  rw [← hq] at d8
  have c0 := h.c0
  obtain ⟨pl, hpl⟩ : ∃ pl, wrap64 ((M.th k).c.pc - 4096) = pl := ⟨_, rfl⟩
  have hw : IntKind.i64.wrap ((M.th k).c.pc - 4096) = pl := by have h1 := hpl; unfold wrap64 at h1; rw [IntKind.wrap_i64]; exact h1
  have hr : ∃ ez : Int, (ez = 1 ∨ ez = 9) ∧ I.decR M.code pl = decV (insW 0 0 0 0) 0 ez := by
    unfold T.decOk T.plc at hd
    rw [hpl] at hd
    unfold I.decR
    by_cases h1 : pl < 0 ∨ (M.code.size : Int) < pl
    · exact ⟨1, .inl rfl, if_pos h1⟩
    · refine ⟨9, .inr rfl, ?_⟩
      rw [if_neg h1]
      rw [decide_eq_true (by omega), Bool.true_and] at hd
      rw [if_neg (by rw [hd]; decide)]
  obtain ⟨ez, hez, hr⟩ := hr
  have hdec := decode_any M.code pl (by omega) w ht
  rw [hr] at hdec
  have HD : Hid (Calls Tryd.prog 56 #[.string M.code, .int .i64 pl] w fun e w' => e = .returned (decV (insW 0 0 0 0) 0 ez) ∧ Below w.heap.size w w') := hdec
  have hne : ¬ ez = 0 := by omega
  have HV : Hid (TV B w b M K t bm g cap ev us) := h
  have HQP : Hid (p = k * 13) := hq
  clear h hdec hr hd hpl hez hu hq hok hes
  go_enter Tryd.func45, Tryd.ntmps45
  go_wp2_with fail
  refine HD.out.mono ?_
  rintro e y1 ⟨rfl, hb1⟩
  have hb2 : Below w.heap.size w (y1.alloc (.cells #[.int .i64 0, .int .i64 0, .int .i64 0, .int .i64 0] 101)) := hb1.alloc hb1.size _
  have HV2 : Hid (TV B (y1.alloc (.cells #[.int .i64 0, .int .i64 0, .int .i64 0, .int .i64 0] 101)) b M K t bm g cap ev us) := HV.out.below hb2
  have HS2 : Hid (St t t w (y1.alloc (.cells #[.int .i64 0, .int .i64 0, .int .i64 0, .int .i64 0] 101))) := St.ofBelow t hb2
  have HTR : Hid (Calls Tryd.prog 57 #[.pointer (some ⟨g, p, none⟩), .int .i64 3] (y1.alloc (.cells #[.int .i64 0, .int .i64 0, .int .i64 0, .int .i64 0] 101)) fun e w' => e = .returned (.tuple #[]) ∧ TV B w' b (T.setC M k (T.trapC (M.th k).c 3)) K t bm g cap ev us ∧ St t t (y1.alloc (.cells #[.int .i64 0, .int .i64 0, .int .i64 0, .int .i64 0] 101)) w') := trap_any HV2.out hk HQP.out 3
  clear hb1 hb2 d8 c0
  go_wp2_with fail
  refine HTR.out.mono ?_
  rintro e y3 ⟨rfl, hv3, hs3⟩
  have HV3 : Hid (TV B y3 b (T.setC M k (T.trapC (M.th k).c 3)) K t bm g cap ev us) := hv3
  have HS3 : Hid (St t t w y3) := HS2.out.trans hs3
  clear hv3 hs3
  go_wp2
  refine bodyPost_ret (results_none rfl _ _ _) rfl ?_
  exact ⟨rfl, t, ev, us, HV3.out.mono (by omega), HS3.out⟩

end Go.Proofs.YtneclfaamgfoeaaDoor

/- step's small functions, and Finish. -/
namespace Go.Proofs.YtneclfaamgfoeaaDoor
open Go.RowKit

theorem ret_bool {a b : Bool} (h : a = b) : Ending.returned (.bool a) = .returned (.bool b) := by rw [h]

theorem isreg_any (r : Int) (w : World) :
    Calls Tryd.prog 85 #[.int .i64 r] w fun e w' => e = .returned (.bool (S.isr r)) ∧ w' = w := by
  by_cases h : 0 ≤ r
  · by_cases h2 : r < 8
    · go_enter Tryd.func85, Tryd.ntmps85
      go_wp2
      go_ret
      exact ⟨ret_bool (by rw [S.isr_yes (by omega)]), rfl⟩
    · go_enter Tryd.func85, Tryd.ntmps85
      go_wp2
      go_ret
      exact ⟨ret_bool (by rw [S.isr_no (by omega)]), rfl⟩
  · go_enter Tryd.func85, Tryd.ntmps85
    go_wp2
    go_ret
    exact ⟨ret_bool (by rw [S.isr_no (by omega)]), rfl⟩

set_option maxHeartbeats 1000000 in
theorem sum_any (c : S.C) (k : Nat) (hk : k < 8) (n : Int) (w : World) :
    Calls Tryd.prog 75 #[.agg c.regs, .int .i64 k, .int .i64 n] w fun e w' => e = .returned (.int .i64 (wrap64 (c.rd k + n))) ∧ w' = w.alloc (.cells c.regs 140) := by
  rcases (show k = 0 ∨ k = 1 ∨ k = 2 ∨ k = 3 ∨ k = 4 ∨ k = 5 ∨ k = 6 ∨ k = 7 by omega) with rfl | rfl | rfl | rfl | rfl | rfl | rfl | rfl
  all_goals
    go_enter Tryd.func75, Tryd.ntmps75
    go_wp2
    go_ret
    exact ⟨rfl, rfl⟩

theorem sum_7 (c : S.C) (n : Int) (w : World) :
    Calls Tryd.prog 75 #[.agg c.regs, .int .i64 7, .int .i64 n] w fun e w' => e = .returned (.int .i64 (wrap64 (c.rd 7 + n))) ∧ w' = w.alloc (.cells c.regs 140) :=
  sum_any c 7 (by omega) n w


theorem bl4 (w : World) (x y z u : Obj) : Below w.heap.size w ((((w.alloc x).alloc y).alloc z).alloc u) := (bl3 w x y z).alloc (by simp; omega) _
theorem bl5 (w : World) (x y z u v : Obj) : Below w.heap.size w (((((w.alloc x).alloc y).alloc z).alloc u).alloc v) := (bl4 w x y z u).alloc (by simp; omega) _

theorem reads_any (k : Int) (w : World) :
    Calls Tryd.prog 84 #[.int .i64 k] w fun e w' => e = .returned (.bool (decide (k = 1 ∨ k = 3 ∨ k = 4))) ∧ w' = w := by
  by_cases h1 : k = 1
  · subst h1
    go_enter Tryd.func84, Tryd.ntmps84
    go_wp2
    go_ret
    exact ⟨rfl, rfl⟩
  · by_cases h3 : k = 3
    · subst h3
      go_enter Tryd.func84, Tryd.ntmps84
      go_wp2
      go_ret
      exact ⟨rfl, rfl⟩
    · have e1 : (k == 1) = false := by simpa using h1
      have e3 : (k == 3) = false := by simpa using h3
      go_enter Tryd.func84, Tryd.ntmps84
      go_wp2
      go_ret
      refine ⟨?_, rfl⟩
      by_cases h4 : k = 4
      · subst h4; rfl
      · rw [decide_eq_false (by omega)]; simp [h4]

set_option maxHeartbeats 1000000 in
theorem known_any (op a b n : Int) (w : World) :
    Calls Tryd.prog 74 #[S.insV op a b n] w fun e w' => e = .returned (.bool (S.known op a b)) ∧ w' = w.alloc (.cells #[.int .i64 op, .int .i64 a, .int .i64 b, .int .i64 n] 101) := by
  by_cases h1 : 1 ≤ op
  · by_cases h2 : op ≤ 33
    · by_cases h3 : 0 ≤ a ∧ a < 8
      · have ha : S.isr a = true := S.isr_yes h3
        go_enter Tryd.func74, Tryd.ntmps74
        go_wp2_with (go_at_call 85; refine (isreg_any _ _).mono ?_; rintro e w' ⟨rfl, rfl⟩)
        go_ret
        exact ⟨ret_bool (by rw [S.known_ab h1 h2 h3]), rfl⟩
      · have ha : S.isr a = false := S.isr_no h3
        go_enter Tryd.func74, Tryd.ntmps74
        go_wp2_with (go_at_call 85; refine (isreg_any _ _).mono ?_; rintro e w' ⟨rfl, rfl⟩)
        go_ret
        exact ⟨ret_bool (by rw [S.known_no (by omega)]), rfl⟩
    · go_enter Tryd.func74, Tryd.ntmps74
      go_wp2
      go_ret
      exact ⟨ret_bool (by rw [S.known_no (by omega)]), rfl⟩
  · go_enter Tryd.func74, Tryd.ntmps74
    go_wp2
    go_ret
    exact ⟨ret_bool (by rw [S.known_no (by omega)]), rfl⟩

set_option maxHeartbeats 1000000 in
theorem trapped_any (c : S.C) (n : Int) (w : World) :
    Calls Tryd.prog 93 #[c.v, .int .i64 n] w fun e w' => e = .returned { c with st := 2, tr := n }.v ∧ w' = (w.alloc (.cells #[.int .i64 c.r0, .int .i64 c.r1, .int .i64 c.r2, .int .i64 c.r3, .int .i64 c.r4, .int .i64 c.r5, .int .i64 c.r6, .int .i64 c.r7, .int .i64 c.pc, .int .i64 2, .int .i64 n] 44)).alloc (.cells #[.int .i64 c.r0, .int .i64 c.r1, .int .i64 c.r2, .int .i64 c.r3, .int .i64 c.r4, .int .i64 c.r5, .int .i64 c.r6, .int .i64 c.r7, .int .i64 c.pc, .int .i64 2, .int .i64 n] 44) := by
  go_enter Tryd.func93, Tryd.ntmps93
  go_wp2
  exact bodyPost_ret (v := { c with st := 2, tr := n }.v) (by simp [results, Tryd.results93, go_sem]) rfl ⟨rfl, rfl⟩

set_option maxHeartbeats 1000000 in
theorem rtrapped_any (c : S.C) (n : Int) (w : World) :
    Calls Tryd.prog 66 #[c.v, .int .i64 n] w fun e w' => e = .returned { c with st := 2, tr := n }.v ∧ w' = (w.alloc (.cells #[.int .i64 c.r0, .int .i64 c.r1, .int .i64 c.r2, .int .i64 c.r3, .int .i64 c.r4, .int .i64 c.r5, .int .i64 c.r6, .int .i64 c.r7, .int .i64 c.pc, .int .i64 2, .int .i64 n] 44)).alloc (.cells #[.int .i64 c.r0, .int .i64 c.r1, .int .i64 c.r2, .int .i64 c.r3, .int .i64 c.r4, .int .i64 c.r5, .int .i64 c.r6, .int .i64 c.r7, .int .i64 c.pc, .int .i64 2, .int .i64 n] 44) := by
  go_enter Tryd.func66, Tryd.ntmps66
  go_wp2
  exact bodyPost_ret (v := { c with st := 2, tr := n }.v) (by simp [results, Tryd.results66, go_sem]) rfl ⟨rfl, rfl⟩
end Go.Proofs.YtneclfaamgfoeaaDoor

/- What an instruction asks of memory. -/
namespace Go.Proofs.YtneclfaamgfoeaaDoor
open Go.RowKit
set_option linter.unusedVariables false
attribute [local go_sem ↓] Go.wp_at_zero Go.wp_at_succ

set_option maxHeartbeats 4000000 in
theorem asked_17 (c : S.C) (a b : Nat) (ha : a < 8) (hb : b < 8) (n next : Int) (w : World) :
    Calls Tryd.prog 77 #[S.insV 17 a b n, .int .i64 next, .func (.func 75) #[.agg c.regs] #[]] w fun e w' => e = .returned (S.asked c 17 a b n next).w ∧ Below w.heap.size w w' := by
  go_enter Tryd.func77, Tryd.ntmps77
  go_wp2_with fail
  go_region_held3 (fun w' => w'.cell? ⟨w.heap.size, 0, none⟩ = some (.int .i64 17) ∧ w'.cell? ⟨w.heap.size, 1, none⟩ = some (.int .i64 a) ∧ w'.cell? ⟨w.heap.size, 2, none⟩ = some (.int .i64 b) ∧ w'.cell? ⟨w.heap.size, 3, none⟩ = some (.int .i64 n)) (go_keep) ((go_at_call 75; refine (sum_any c _ ?_ _ _).mono ?_; assumption; rintro e w' ⟨rfl, rfl⟩))
  all_goals go_wp2
  all_goals
    refine bodyPost_ret (v := S.Q.w ⟨1, wrap64 (c.rd b + n), 0, a⟩) (by simp [results, Tryd.results77, go_sem]) rfl ⟨rfl, ?_⟩
    first | exact bl2 _ _ _ | exact bl3 _ _ _ _ | exact (bl3 _ _ _ _).drew | exact (bl4 _ _ _ _ _).drew

set_option maxHeartbeats 4000000 in
theorem asked_18 (c : S.C) (a b : Nat) (ha : a < 8) (hb : b < 8) (n next : Int) (w : World) :
    Calls Tryd.prog 77 #[S.insV 18 a b n, .int .i64 next, .func (.func 75) #[.agg c.regs] #[]] w fun e w' => e = .returned (S.asked c 18 a b n next).w ∧ Below w.heap.size w w' := by
  go_enter Tryd.func77, Tryd.ntmps77
  go_wp2_with fail
  go_region_held3 (fun w' => w'.cell? ⟨w.heap.size, 0, none⟩ = some (.int .i64 18) ∧ w'.cell? ⟨w.heap.size, 1, none⟩ = some (.int .i64 a) ∧ w'.cell? ⟨w.heap.size, 2, none⟩ = some (.int .i64 b) ∧ w'.cell? ⟨w.heap.size, 3, none⟩ = some (.int .i64 n)) (go_keep) ((go_at_call 75; refine (sum_any c _ ?_ _ _).mono ?_; assumption; rintro e w' ⟨rfl, rfl⟩))
  all_goals go_wp2
  all_goals
    refine bodyPost_ret (v := S.Q.w ⟨2, wrap64 (c.rd a + n), wrap64 (c.rd b), 0⟩) (by simp [results, Tryd.results77, go_sem]) rfl ⟨rfl, ?_⟩
    first | exact bl2 _ _ _ | exact bl3 _ _ _ _ | exact (bl3 _ _ _ _).drew | exact (bl4 _ _ _ _ _).drew

set_option maxHeartbeats 4000000 in
theorem asked_28 (c : S.C) (a b : Nat) (ha : a < 8) (hb : b < 8) (n next : Int) (w : World) :
    Calls Tryd.prog 77 #[S.insV 28 a b n, .int .i64 next, .func (.func 75) #[.agg c.regs] #[]] w fun e w' => e = .returned (S.asked c 28 a b n next).w ∧ Below w.heap.size w w' := by
  go_enter Tryd.func77, Tryd.ntmps77
  go_wp2_with fail
  go_region_held3 (fun w' => w'.cell? ⟨w.heap.size, 0, none⟩ = some (.int .i64 28) ∧ w'.cell? ⟨w.heap.size, 1, none⟩ = some (.int .i64 a) ∧ w'.cell? ⟨w.heap.size, 2, none⟩ = some (.int .i64 b) ∧ w'.cell? ⟨w.heap.size, 3, none⟩ = some (.int .i64 n)) (go_keep) ((go_at_call 75; refine (sum_any c _ ?_ _ _).mono ?_; assumption; rintro e w' ⟨rfl, rfl⟩))
  all_goals go_wp2
  all_goals
    refine bodyPost_ret (v := S.Q.w ⟨3, wrap64 (c.rd a + n), wrap64 (c.rd b), b⟩) (by simp [results, Tryd.results77, go_sem]) rfl ⟨rfl, ?_⟩
    first | exact bl2 _ _ _ | exact bl3 _ _ _ _ | exact (bl3 _ _ _ _).drew | exact (bl4 _ _ _ _ _).drew

set_option maxHeartbeats 4000000 in
theorem asked_29 (c : S.C) (a b : Nat) (ha : a < 8) (hb : b < 8) (n next : Int) (w : World) :
    Calls Tryd.prog 77 #[S.insV 29 a b n, .int .i64 next, .func (.func 75) #[.agg c.regs] #[]] w fun e w' => e = .returned (S.asked c 29 a b n next).w ∧ Below w.heap.size w w' := by
  go_enter Tryd.func77, Tryd.ntmps77
  go_wp2_with fail
  go_region_held3 (fun w' => w'.cell? ⟨w.heap.size, 0, none⟩ = some (.int .i64 29) ∧ w'.cell? ⟨w.heap.size, 1, none⟩ = some (.int .i64 a) ∧ w'.cell? ⟨w.heap.size, 2, none⟩ = some (.int .i64 b) ∧ w'.cell? ⟨w.heap.size, 3, none⟩ = some (.int .i64 n)) (go_keep) ((go_at_call 75; refine (sum_any c _ ?_ _ _).mono ?_; assumption; rintro e w' ⟨rfl, rfl⟩))
  all_goals go_wp2
  all_goals
    refine bodyPost_ret (v := S.Q.w ⟨4, wrap64 (c.rd a + n), wrap64 (c.rd b), b⟩) (by simp [results, Tryd.results77, go_sem]) rfl ⟨rfl, ?_⟩
    first | exact bl2 _ _ _ | exact bl3 _ _ _ _ | exact (bl3 _ _ _ _).drew | exact (bl4 _ _ _ _ _).drew

set_option maxHeartbeats 4000000 in
theorem asked_23 (c : S.C) (a b : Nat) (ha : a < 8) (hb : b < 8) (n next : Int) (w : World) :
    Calls Tryd.prog 77 #[S.insV 23 a b n, .int .i64 next, .func (.func 75) #[.agg c.regs] #[]] w fun e w' => e = .returned (S.asked c 23 a b n next).w ∧ Below w.heap.size w w' := by
  go_enter Tryd.func77, Tryd.ntmps77
  go_wp2_with (go_at_call 75; refine (sum_7 c _ _).mono ?_; rintro e w' ⟨rfl, rfl⟩)
  all_goals
    refine bodyPost_ret (v := S.Q.w ⟨2, wrap64 (c.rd 7 + -8), next, 0⟩) (by simp [results, Tryd.results77, go_sem]) rfl ⟨rfl, ?_⟩
    first | exact bl2 _ _ _ | exact bl3 _ _ _ _ | exact (bl3 _ _ _ _).drew | exact (bl4 _ _ _ _ _).drew

set_option maxHeartbeats 4000000 in
theorem asked_24 (c : S.C) (a b : Nat) (ha : a < 8) (hb : b < 8) (n next : Int) (w : World) :
    Calls Tryd.prog 77 #[S.insV 24 a b n, .int .i64 next, .func (.func 75) #[.agg c.regs] #[]] w fun e w' => e = .returned (S.asked c 24 a b n next).w ∧ Below w.heap.size w w' := by
  go_enter Tryd.func77, Tryd.ntmps77
  go_wp2_with (go_at_call 75; refine (sum_7 c _ _).mono ?_; rintro e w' ⟨rfl, rfl⟩)
  all_goals
    refine bodyPost_ret (v := S.Q.w ⟨1, wrap64 (c.rd 7), 0, 8⟩) (by simp [results, Tryd.results77, go_sem]) rfl ⟨rfl, ?_⟩
    first | exact bl2 _ _ _ | exact bl3 _ _ _ _ | exact (bl3 _ _ _ _).drew | exact (bl4 _ _ _ _ _).drew

set_option maxHeartbeats 4000000 in
theorem asked_30 (c : S.C) (a b : Nat) (ha : a < 8) (hb : b < 8) (n next : Int) (w : World) :
    Calls Tryd.prog 77 #[S.insV 30 a b n, .int .i64 next, .func (.func 75) #[.agg c.regs] #[]] w fun e w' => e = .returned (S.asked c 30 a b n next).w ∧ Below w.heap.size w w' := by
  go_enter Tryd.func77, Tryd.ntmps77
  go_wp2
  all_goals
    refine bodyPost_ret (v := S.Q.w ⟨5, 0, 0, 0⟩) (by simp [results, Tryd.results77, go_sem]) rfl ⟨rfl, ?_⟩
    first | exact bl2 _ _ _ | exact bl3 _ _ _ _ | exact (bl3 _ _ _ _).drew | exact (bl4 _ _ _ _ _).drew

set_option maxHeartbeats 4000000 in
theorem asked_32 (c : S.C) (a b : Nat) (ha : a < 8) (hb : b < 8) (n next : Int) (w : World) :
    Calls Tryd.prog 77 #[S.insV 32 a b n, .int .i64 next, .func (.func 75) #[.agg c.regs] #[]] w fun e w' => e = .returned (S.asked c 32 a b n next).w ∧ Below w.heap.size w w' := by
  go_enter Tryd.func77, Tryd.ntmps77
  go_wp2
  all_goals
    refine bodyPost_ret (v := S.Q.w ⟨5, 0, 0, 0⟩) (by simp [results, Tryd.results77, go_sem]) rfl ⟨rfl, ?_⟩
    first | exact bl2 _ _ _ | exact bl3 _ _ _ _ | exact (bl3 _ _ _ _).drew | exact (bl4 _ _ _ _ _).drew

set_option maxHeartbeats 4000000 in
theorem asked_31 (c : S.C) (a b : Nat) (ha : a < 8) (hb : b < 8) (n next : Int) (w : World) :
    Calls Tryd.prog 77 #[S.insV 31 a b n, .int .i64 next, .func (.func 75) #[.agg c.regs] #[]] w fun e w' => e = .returned (S.asked c 31 a b n next).w ∧ Below w.heap.size w w' := by
  go_enter Tryd.func77, Tryd.ntmps77
  go_wp2_with (go_at_call 75; refine (sum_any c _ ?_ _ _).mono ?_; assumption; rintro e w' ⟨rfl, rfl⟩)
  all_goals
    refine bodyPost_ret (v := S.Q.w ⟨6, 0, wrap64 (c.rd a), 0⟩) (by simp [results, Tryd.results77, go_sem]) rfl ⟨rfl, ?_⟩
    first | exact bl2 _ _ _ | exact bl3 _ _ _ _ | exact (bl3 _ _ _ _).drew | exact (bl4 _ _ _ _ _).drew

set_option maxHeartbeats 4000000 in
theorem asked_no (c : S.C) (op : Int) (h : ¬ op = 17 ∧ ¬ op = 18 ∧ ¬ op = 28 ∧ ¬ op = 29 ∧ ¬ op = 23 ∧ ¬ op = 24 ∧ ¬ op = 30 ∧ ¬ op = 32 ∧ ¬ op = 31) (a b : Nat) (n next : Int) (w : World) :
    Calls Tryd.prog 77 #[S.insV op a b n, .int .i64 next, .func (.func 75) #[.agg c.regs] #[]] w fun e w' => e = .returned (S.asked c op a b n next).w ∧ Below w.heap.size w w' := by
  rw [S.asked_no h]
  obtain ⟨h1, h2, h3, h4, h5, h6, h7, h8, h9⟩ := h
  go_enter Tryd.func77, Tryd.ntmps77
  go_wp2
  exact bodyPost_ret (v := S.Q.w ⟨0, 0, 0, 0⟩) (by simp [results, Tryd.results77, go_sem]) rfl ⟨rfl, bl2 _ _ _⟩

theorem asked_any (c : S.C) (op : Int) (a b : Nat) (ha : a < 8) (hb : b < 8) (n next : Int) (w : World) :
    Calls Tryd.prog 77 #[S.insV op a b n, .int .i64 next, .func (.func 75) #[.agg c.regs] #[]] w fun e w' => e = .returned (S.asked c op a b n next).w ∧ Below w.heap.size w w' := by
  by_cases h17 : op = 17
  · subst h17; exact asked_17 c a b ha hb n next w
  by_cases h18 : op = 18
  · subst h18; exact asked_18 c a b ha hb n next w
  by_cases h28 : op = 28
  · subst h28; exact asked_28 c a b ha hb n next w
  by_cases h29 : op = 29
  · subst h29; exact asked_29 c a b ha hb n next w
  by_cases h23 : op = 23
  · subst h23; exact asked_23 c a b ha hb n next w
  by_cases h24 : op = 24
  · subst h24; exact asked_24 c a b ha hb n next w
  by_cases h30 : op = 30
  · subst h30; exact asked_30 c a b ha hb n next w
  by_cases h32 : op = 32
  · subst h32; exact asked_32 c a b ha hb n next w
  by_cases h31 : op = 31
  · subst h31; exact asked_31 c a b ha hb n next w
  exact asked_no c op (by omega) a b n next w

end Go.Proofs.YtneclfaamgfoeaaDoor

/- Does an instruction jump? -/
namespace Go.Proofs.YtneclfaamgfoeaaDoor
open Go.RowKit

set_option maxHeartbeats 4000000 in
theorem jumps_any (c : S.C) (op : Int) (a : Nat) (ha : a < 8) (b n : Int) (w : World) :
    Calls Tryd.prog 95 #[S.insV op a b n, .func (.func 75) #[.agg c.regs] #[]] w fun e w' => e = .returned (.bool (S.jumps c op a)) ∧ (w' = (w.alloc (.cells #[.int .i64 op, .int .i64 a, .int .i64 b, .int .i64 n] 101)) ∨ w' = (w.alloc (.cells #[.int .i64 op, .int .i64 a, .int .i64 b, .int .i64 n] 101)).alloc (.cells c.regs 140)) := by
  by_cases h1 : op = 20 ∨ op = 25 ∨ op = 23
  · rw [S.jumps_yes h1]
    rcases h1 with rfl | rfl | rfl
    all_goals
      go_enter Tryd.func95, Tryd.ntmps95
      go_wp2
      go_ret
      exact ⟨rfl, .inl rfl⟩
  · by_cases h2 : op = 21 ∨ op = 26
    · rw [S.jumps_z h2]
      rcases h2 with rfl | rfl
      all_goals
        go_enter Tryd.func95, Tryd.ntmps95
        go_wp2_with (first | (go_at_call 75; refine (sum_any c a ha 0 _).mono ?_; rintro e w' ⟨rfl, rfl⟩))
        go_ret
        exact ⟨ret_bool (by first | rfl | simp), .inr rfl⟩
    · by_cases h3 : op = 22 ∨ op = 27
      · rw [S.jumps_nz h3]
        rcases h3 with rfl | rfl
        all_goals
          go_enter Tryd.func95, Tryd.ntmps95
          go_wp2_with (first | (go_at_call 75; refine (sum_any c a ha 0 _).mono ?_; rintro e w' ⟨rfl, rfl⟩))
          go_ret
          exact ⟨ret_bool (by first | rfl | simp), .inr rfl⟩
      · rw [S.jumps_no h1 h2 h3]
        have e20 : ¬ op = 20 := by omega
        have e25 : ¬ op = 25 := by omega
        have e23 : ¬ op = 23 := by omega
        have e21 : ¬ op = 21 := by omega
        have e26 : ¬ op = 26 := by omega
        have e22 : ¬ op = 22 := by omega
        have e27 : ¬ op = 27 := by omega
        clear h1 h2 h3
        go_enter Tryd.func95, Tryd.ntmps95
        go_wp2
        go_ret
        exact ⟨rfl, .inl rfl⟩

end Go.Proofs.YtneclfaamgfoeaaDoor
