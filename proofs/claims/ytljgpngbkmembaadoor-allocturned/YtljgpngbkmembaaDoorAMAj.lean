/- The temps that must have a slot. -/
import Derived.Test.YtljgpngbkmembaaDoorAMAi
namespace Go.Proofs.YtljgpngbkmembaaDoor
open Go.RowKit Go.Maps
set_option linter.unusedVariables false
set_option linter.unusedSimpArgs false
/-- Operations that another function does. -/
def F.leavesK (x : F.Op) : Bool := decide (x.op = 6) || (decide (x.op = 7) || (decide (x.op = 8) || (decide (x.op = 9) || decide (x.op = 10))))
set_option maxRecDepth 100000 in
theorem leavesK_any (x : F.Op) (r : Ar) (w : World) : Calls Tryd.prog 63 #[opV x r] w fun e w' => e = .returned (.bool (F.leavesK x)) ∧ Below w.heap.size w w' := by
  obtain ⟨R, hR⟩ : ∃ R, F.leavesK x = R := ⟨_, rfl⟩
  have HR : Hid (F.leavesK x = R) := hR
  rw [hR]
  clear hR
  unfold F.leavesK at HR
  obtain ⟨op, what, nm, d, a, b, n, args, dest⟩ := x
  obtain ⟨ra, rl, rc⟩ := r
  unfold opV
  simp only at HR ⊢
  by_cases h6 : op = 6
  · have e6 : (op == 6) = true := by simpa using h6
    have HV : R = true := by rw [← HR.out]; simp [h6]
    subst HV
    clear h6
    go_enter Tryd.func63, Tryd.ntmps63
    go_wp2_with fail
    go_ret
    exact ⟨rfl, bl1 _ _⟩
  have e6 : (op == 6) = false := by simpa using h6
  by_cases h7 : op = 7
  · have e7 : (op == 7) = true := by simpa using h7
    have HV : R = true := by rw [← HR.out]; simp [h7]
    subst HV
    clear h6 h7
    go_enter Tryd.func63, Tryd.ntmps63
    go_wp2_with fail
    go_ret
    exact ⟨rfl, bl1 _ _⟩
  have e7 : (op == 7) = false := by simpa using h7
  by_cases h8 : op = 8
  · have e8 : (op == 8) = true := by simpa using h8
    have HV : R = true := by rw [← HR.out]; simp [h8]
    subst HV
    clear h6 h7 h8
    go_enter Tryd.func63, Tryd.ntmps63
    go_wp2_with fail
    go_ret
    exact ⟨rfl, bl1 _ _⟩
  have e8 : (op == 8) = false := by simpa using h8
  by_cases h9 : op = 9
  · have e9 : (op == 9) = true := by simpa using h9
    have HV : R = true := by rw [← HR.out]; simp [h9]
    subst HV
    clear h6 h7 h8 h9
    go_enter Tryd.func63, Tryd.ntmps63
    go_wp2_with fail
    go_ret
    exact ⟨rfl, bl1 _ _⟩
  have e9 : (op == 9) = false := by simpa using h9
  by_cases h10 : op = 10
  · have e10 : (op == 10) = true := by simpa using h10
    have HV : R = true := by rw [← HR.out]; simp [h10]
    subst HV
    clear h6 h7 h8 h9 h10
    go_enter Tryd.func63, Tryd.ntmps63
    go_wp2_with fail
    go_ret
    exact ⟨rfl, bl1 _ _⟩
  have e10 : (op == 10) = false := by simpa using h10
  have HV : R = false := by rw [← HR.out]; simp [h6, h7, h8, h9, h10]
  subst HV
  clear h6 h7 h8 h9 h10
  go_enter Tryd.func63, Tryd.ntmps63
  go_wp2_with fail
  go_ret
  exact ⟨rfl, bl1 _ _⟩
namespace F
/-- What is live behind an operation but for what it writes. -/
def overS (f : Fn) (U : Nat → Nat → Nat) (i : Nat) : Nat → Nat := if wr (at_ f i) = -1 then orAll U (nxt (at_ f i) i) else del (orAll U (nxt (at_ f i) i)) (wr (at_ f i)).toNat
/-- What is kept over the first k operations that leave. -/
def keptS (f : Fn) (U : Nat → Nat → Nat) : Nat → (Nat → Nat)
  | 0 => zero7
  | k + 1 => if leavesK (at_ f k) = true then (fun q => keptS f U k q ||| overS f U k q) else keptS f U k
theorem orAll_s7 {f : Fn} {n : Nat} {U : Nat → Nat → Nat} (hm : mayF f = true) (hn : f.code.length = n) (hs : ∀ i, i < n → Set7 (U i)) {i : Nat} (hi : i < n) : Set7 (orAll U (nxt (at_ f i) i)) :=
  orAll_set7 fun j hj => hs j (by have := nxt_in hm (by omega : i < f.code.length) j hj; omega)
theorem overS_s7 {f : Fn} {n : Nat} {U : Nat → Nat → Nat} (hm : mayF f = true) (hn : f.code.length = n) (hs : ∀ i, i < n → Set7 (U i)) {i : Nat} (hi : i < n) : Set7 (overS f U i) := by
  unfold overS
  split
  · exact orAll_s7 hm hn hs hi
  · exact Set7.del (orAll_s7 hm hn hs hi) _
theorem keptS_s7 {f : Fn} {n : Nat} {U : Nat → Nat → Nat} (hm : mayF f = true) (hn : f.code.length = n) (hs : ∀ i, i < n → Set7 (U i)) : ∀ k, k ≤ n → Set7 (keptS f U k) := by
  intro k
  induction k with
  | zero => intro _; exact Set7.zero
  | succ k ih =>
    intro hk
    unfold keptS
    split
    · exact Set7.or (ih (by omega)) (overS_s7 hm hn hs (by omega))
    · exact ih (by omega)
theorem mem_kept {f : Fn} {U : Nat → Nat → Nat} (t : Nat) : ∀ k, mem (keptS f U k) t = true ↔ ∃ i, i < k ∧ leavesK (at_ f i) = true ∧ mem (overS f U i) t = true := by
  intro k
  induction k with
  | zero => unfold keptS; rw [mem_zero]; simp
  | succ k ih =>
    unfold keptS
    split
    · next hl =>
      rw [mem_or, Bool.or_eq_true, ih]
      constructor
      · rintro (⟨i, h1, h2⟩ | h)
        · exact ⟨i, by omega, h2⟩
        · exact ⟨k, by omega, hl, h⟩
      · rintro ⟨i, h1, h2, h3⟩
        by_cases e : i = k
        · subst e; exact .inr h3
        · exact .inl ⟨i, by omega, h2, h3⟩
    · next hl =>
      rw [ih]
      constructor
      · rintro ⟨i, h1, h2⟩; exact ⟨i, by omega, h2⟩
      · rintro ⟨i, h1, h2, h3⟩
        by_cases e : i = k
        · subst e; exact absurd h2 hl
        · exact ⟨i, by omega, h2, h3⟩
end F
/-- The loop's state. -/
structure KpI (w : World) (f : F.Fn) (U : Nat → Nat → Nat) (k : Nat) (W : World) : Prop where
  low : Below w.heap.size w W
  b2 : Bx W w.heap.size (setCs F.zero7).toList
  b3 : Bx W (w.heap.size + 1) (setCs (F.keptS f U k)).toList
theorem KpI.below {w W y : World} {f : F.Fn} {U : Nat → Nat → Nat} {k : Nat} (h : KpI w f U k W) (hb : Below W.heap.size W y) : KpI w f U k y := ⟨h.low.trans (hb.mono h.low.size), h.b2.below hb, h.b3.below hb⟩
set_option maxRecDepth 100000 in
set_option maxHeartbeats 8000000 in
theorem kept_any {w : World} {b : Nat} {f : F.Fn} {a : Option Addr} {n c ga : Nat} {U : Nat → Nat → Nat} (h : LfV w b f a n c ga U) (hu : LfU f n U) :
    Calls Tryd.prog 48 #[.pointer (some ⟨b, 0, none⟩)] w fun e w' => e = .returned (.agg (setCs (F.keptS f U n))) ∧ Below w.heap.size w w' := by
  have hhd := F.may_head hu.may
  have hn2 : n ≤ 20000 := by have := hu.cnt; omega
  obtain ⟨vv, hvv⟩ : ∃ vv, F.keptS f U n = vv := ⟨_, rfl⟩
  have HVV : Hid (F.keptS f U n = vv) := hvv
  rw [hvv]
  clear hvv
  have HU : Hid (LfU f n U) := hu
  have HL : Hid (∀ W, Below w.heap.size w W → LfV W b f a n c ga U) := fun W hW => h.below hW
  have HBEH : Hid (∀ W i, Below w.heap.size w W → i < n → Calls Tryd.prog 24 #[.pointer (some ⟨b, 0, none⟩), .int .i64 i] W fun e w' => e = .returned (.agg (setCs (F.orAll U (F.nxt (F.at_ f i) i)))) ∧ Below W.heap.size W w') := fun W i hW hi => beh_any (h.below hW) hu hi
  clear h hu hhd
  obtain ⟨W0, hW0⟩ : ∃ W0, (w.alloc (.cells (setCs F.zero7) 54)).alloc (.cells (setCs F.zero7) 54) = W0 := ⟨_, rfl⟩
  have HI0 : Hid (KpI w f U 0 W0) := by
    have x1 := Bx.new w (setCs F.zero7) 54
    have b1 := bl1 w (.cells (setCs F.zero7) 54)
    obtain ⟨A1, hA1⟩ : ∃ A1, w.alloc (.cells (setCs F.zero7) 54) = A1 := ⟨_, rfl⟩
    have s1 : A1.heap.size = w.heap.size + 1 := by rw [← hA1]; simp
    rw [hA1] at x1 b1 hW0
    have x2 := Bx.new A1 (setCs F.zero7) 54
    have b2 := bl1 A1 (.cells (setCs F.zero7) 54)
    rw [hW0, s1] at x2
    rw [hW0] at b2
    exact ⟨b1.trans (b2.mono b1.size), x1.below b2, x2⟩
  change (w.alloc (.cells #[.int .u64 0, .int .u64 0, .int .u64 0, .int .u64 0, .int .u64 0, .int .u64 0, .int .u64 0] 54)).alloc (.cells #[.int .u64 0, .int .u64 0, .int .u64 0, .int .u64 0, .int .u64 0, .int .u64 0, .int .u64 0] 54) = W0 at hW0
  have c3 := (HL.out W0 HI0.out.low).c3
  go_enter Tryd.func48, Tryd.ntmps48
  go_wp2_with fail
  clear hW0 c3
  go_loopg [14] n (fun g iv wq => ∃ (i : Nat), g = n - i ∧ iv = .int .i64 i ∧ i ≤ n ∧ Hid (KpI w f U i wq))
  case atStart => exact ⟨0, rfl, rfl, Nat.zero_le _, HI0⟩
  case round =>
    obtain ⟨i, rfl, rfl, hi, HI⟩ := hrel
    by_cases hin : i < n
    · have hil : (i : Int) < n := by omega
      have hi0 : 0 ≤ (i : Int) := by omega
      have hlf := HL.out wr HI.out.low
      obtain ⟨bc, offc, r, rfl, hat, hnum⟩ := hlf.ops.at hin
      obtain ⟨x, hxx⟩ : ∃ x, f.code.getD i F.noOp = x := ⟨_, rfl⟩
      rw [hxx] at hat hnum
      have HXX : Hid (F.at_ f i = x) := hxx
      have hopk := F.op_kind (F.may_op HU.out.may (i := i) (by rw [HU.out.cnt]; exact hin))
      rw [HXX.out] at hopk
      have hwr := F.wr_in (F.may_op HU.out.may (i := i) (by rw [HU.out.cnt]; exact hin))
      rw [HXX.out] at hwr
      have hT4 := (F.may_head HU.out.may).2.2.1
      have HT4 : Hid (f.temps ≤ 400) := hT4
      have HWRR : Hid ((0 ≤ F.wr x ∧ F.wr x < f.temps) ∨ F.wr x = -1) := hwr
      have HWR : Hid (∀ W, Below w.heap.size w W → Calls Tryd.prog 64 #[opV x r] W fun e w' => e = .returned (.int .i64 (F.wr x)) ∧ Below W.heap.size W w') := fun W hW => writes_any x r (k := x.op.toNat) (by omega) (by omega) W (HL.out W hW).env.shp
      have HLE : Hid (∀ W, _) := leavesK_any x r
      obtain ⟨o0, o1, o2, o3, o4, o5, o6, o7, o8⟩ := hat
      unfold opV at HWR HLE
      clear hlf hnum hxx hopk hwr hT4
      obtain ⟨W1, hW1⟩ : ∃ W1, wr.alloc (.cells #[.int .i64 x.op, .int .i64 x.what, .string x.nm, .int .i64 x.d, .int .i64 x.a, .int .i64 x.b, .int .i64 x.n, .slice r.a r.l r.c, .int .i64 x.dest] 46) = W1 := ⟨_, rfl⟩
      have HX5 : Hid (Bx W1 wr.heap.size (opC x r)) := by show Bx _ _ _; rw [← hW1]; exact Bx.new wr (opC x r).toArray _
      have HI1 : Hid (KpI w f U i W1) := by show KpI _ _ _ _ _; rw [← hW1]; exact HI.out.below (bl1 _ _)
      obtain ⟨b5, hb5⟩ : ∃ b5, wr.heap.size = b5 := ⟨_, rfl⟩
      have HB5 : Hid (w.heap.size + 2 ≤ b5) := by show _ ≤ _; rw [← hb5]; exact HI.out.b3.lt
      rw [hb5] at HX5
      have p0 := HX5.out.c 0 _ rfl
      have p1 := HX5.out.c 1 _ rfl
      have p2 := HX5.out.c 2 _ rfl
      have p3 := HX5.out.c 3 _ rfl
      have p4 := HX5.out.c 4 _ rfl
      have p5 := HX5.out.c 5 _ rfl
      have p6 := HX5.out.c 6 _ rfl
      have p7 := HX5.out.c 7 _ rfl
      have p8 := HX5.out.c 8 _ rfl
      go_wp2_with fail
      refine (HLE.out W1).mono ?_
      rintro e y1 ⟨rfl, hb1⟩
      have HX1 : Hid (Bx y1 b5 (opC x r)) := HX5.out.below hb1
      have HK1 : Hid (KpI w f U i y1) := HI1.out.below hb1
      clear hb1 hW1 hb5 p0 p1 p2 p3 p4 p5 p6 p7 p8 o0 o1 o2 o3 o4 o5 o6 o7 o8 HX5 HI1 HI
      cases hlv : F.leavesK x with
      | false =>
        have HN : Hid (KpI w f U (i + 1) y1) := by
          refine ⟨HK1.out.low, HK1.out.b2, ?_⟩
          have e1 : F.keptS f U (i + 1) = F.keptS f U i := by
            show (if F.leavesK (F.at_ f i) = true then _ else _) = _
            rw [HXX.out, hlv]
            rfl
          rw [e1]
          exact HK1.out.b3
        clear hlv
        go_wp2_with fail
        go_roundg (n - (i + 1))
        case measure => omega
        case rel => exact ⟨i + 1, rfl, by go_num, by omega, HN⟩
      | true =>
        have HLV : Hid (F.leavesK x = true) := hlv
        obtain ⟨v, hv⟩ : ∃ v, F.orAll U (F.nxt (F.at_ f i) i) = v := ⟨_, rfl⟩
        have HV : Hid (F.orAll U (F.nxt (F.at_ f i) i) = v) := hv
        have HV7 : Hid (F.Set7 v) := by show F.Set7 v; rw [← hv]; exact F.orAll_s7 HU.out.may HU.out.cnt HU.out.s7 hin
        have hbh := HBEH.out y1 i HK1.out.low hin
        rw [hv] at hbh
        unfold setCs at hbh
        have HBB : Hid _ := hbh
        clear hbh hv hlv
        go_wp2_with fail
        refine Calls.mono HBB.out ?_
        rintro e y2 ⟨rfl, hb2⟩
        have HX2 : Hid (Bx y2 b5 (opC x r)) := HX1.out.below hb2
        have HK2 : Hid (KpI w f U i y2) := HK1.out.below hb2
        obtain ⟨W3, hW3⟩ : ∃ W3, y2.alloc (.cells #[.int .u64 (v 0 : Int), .int .u64 (v 1 : Int), .int .u64 (v 2 : Int), .int .u64 (v 3 : Int), .int .u64 (v 4 : Int), .int .u64 (v 5 : Int), .int .u64 (v 6 : Int)] 54) = W3 := ⟨_, rfl⟩
        have HX3 : Hid (Bx W3 b5 (opC x r)) := by show Bx _ _ _; rw [← hW3]; exact HX2.out.below (bl1 _ _)
        have HK3 : Hid (KpI w f U i W3) := by show KpI _ _ _ _ _; rw [← hW3]; exact HK2.out.below (bl1 _ _)
        have HV3 : Hid (Bx W3 y2.heap.size (setCs v).toList) := by show Bx _ _ _; rw [← hW3]; exact Bx.new y2 (setCs v) _
        obtain ⟨b6, hb6⟩ : ∃ b6, y2.heap.size = b6 := ⟨_, rfl⟩
        have HB6 : Hid (b5 < b6) := by show b5 < b6; rw [← hb6]; exact HX2.out.lt
        rw [hb6] at HV3
        have p0 := HX3.out.c 0 _ rfl
        have p1 := HX3.out.c 1 _ rfl
        have p2 := HX3.out.c 2 _ rfl
        have p3 := HX3.out.c 3 _ rfl
        have p4 := HX3.out.c 4 _ rfl
        have p5 := HX3.out.c 5 _ rfl
        have p6 := HX3.out.c 6 _ rfl
        have p7 := HX3.out.c 7 _ rfl
        have p8 := HX3.out.c 8 _ rfl
        clear hb2 HX1 HK1 HBB
        go_wp2_with fail
        refine (HWR.out W3 HK3.out.low).mono ?_
        rintro e y3 ⟨rfl, hb3⟩
        have HK4 : Hid (KpI w f U i y3) := HK3.out.below hb3
        have HV4 : Hid (Bx y3 b6 (setCs v).toList) := HV3.out.below hb3
        obtain ⟨ov, hov⟩ : ∃ ov, F.overS f U i = ov := ⟨_, rfl⟩
        have HOV : Hid (F.overS f U i = ov) := hov
        have HOV7 : Hid (F.Set7 ov) := by show F.Set7 ov; rw [← hov]; exact F.overS_s7 HU.out.may HU.out.cnt HU.out.s7 hin
        have hov2 : (if F.wr x = -1 then v else F.del v (F.wr x).toNat) = ov := by rw [← hov]; unfold F.overS; rw [HXX.out, ← HXX.out, HV.out]
        clear hb3 hW3 hb6 hov p0 p1 p2 p3 p4 p5 p6 p7 p8 HX2 HK2 HX3 HK3 HV3
        by_cases hw1 : F.wr x = -1
        · rw [if_pos hw1] at hov2
          have HV5 : Hid (Bx y3 b6 (setCs ov).toList) := by show Bx _ _ _; rw [← hov2]; exact HV4.out
          rw [hw1]
          clear hw1 hov2 HV4
          have t0 := HV5.out.c 0 _ rfl
          have t1 := HV5.out.c 1 _ rfl
          have t2 := HV5.out.c 2 _ rfl
          have t3 := HV5.out.c 3 _ rfl
          have t4 := HV5.out.c 4 _ rfl
          have t5 := HV5.out.c 5 _ rfl
          have t6 := HV5.out.c 6 _ rfl
          have HJN : Hid (Calls Tryd.prog 59 #[.pointer (some ⟨w.heap.size + 1, 0, none⟩), .agg (setCs ov)] y3 fun e y => e = .returned (.tuple #[]) ∧ JnR (y3.alloc (.cells (setCs ov) 54)) (w.heap.size + 1) 0 (F.keptS f U i) ov 7 y) := join_any (w.heap.size + 1) 0 (F.keptS f U i) ov (F.keptS_s7 HU.out.may HU.out.cnt HU.out.s7 i hi) HOV7.out y3 HK4.out.b3.lt (fun q hq => HK4.out.b3.set q hq) (fun q hq => HK4.out.b3.f _)
          unfold setCs at HJN
          go_wp2_with fail
          refine Calls.mono HJN ?_
          rintro e y9 ⟨rfl, hj⟩
          have HN : Hid (KpI w f U (i + 1) y9) := by
            have hjx : JnR (y3.alloc (.cells (setCs ov) 54)) (w.heap.size + 1) 0 (F.keptS f U i) ov 7 y9 := hj
            have h1 := HK4.out.below (bl1 y3 (.cells (setCs ov) 54))
            refine ⟨h1.low.trans (hjx.1.below (by omega) h1.low.size), h1.b2.upd hjx.1 (by omega), ?_⟩
            have h2 := hjx.bx h1.b3
            have e1 : F.keptS f U (i + 1) = fun q => F.keptS f U i q ||| ov q := by
              show (if F.leavesK (F.at_ f i) = true then _ else _) = _
              rw [HXX.out, if_pos HLV.out, HOV.out]
            rw [e1]
            exact h2
          clear hj HJN t0 t1 t2 t3 t4 t5 t6
          go_wp2_with fail
          go_roundg (n - (i + 1))
          case measure => omega
          case rel => exact ⟨i + 1, rfl, by go_num, by omega, HN⟩
        · rw [if_neg hw1] at hov2
          have hwt := HWRR.out.resolve_right hw1
          have hT4 := HT4.out
          obtain ⟨tn, htn⟩ : ∃ tn : Nat, F.wr x = (tn : Int) := ⟨(F.wr x).toNat, by omega⟩
          rw [htn] at hov2 hwt hw1 ⊢
          rw [Int.toNat_natCast] at hov2
          have e1 : ((tn : Int) != -1) = true := by simp
          have HRM : Hid _ := remove_bx (t := tn) HV4.out HV7.out (by omega)
          clear hwt hw1 hT4 htn
          go_wp2_with fail
          refine Calls.mono HRM.out ?_
          rintro e y4 ⟨rfl, hx, hup⟩
          rw [hov2] at hx
          have HV5 : Hid (Bx y4 b6 (setCs ov).toList) := hx
          have HK5 : Hid (KpI w f U i y4) := by
            have h5 := HB5.out
            have h6 := HB6.out
            exact ⟨HK4.out.low.trans (hup.below (by omega) HK4.out.low.size), HK4.out.b2.upd hup (by omega), HK4.out.b3.upd hup (by omega)⟩
          clear hx hup HRM hov2
          have t0 := HV5.out.c 0 _ rfl
          have t1 := HV5.out.c 1 _ rfl
          have t2 := HV5.out.c 2 _ rfl
          have t3 := HV5.out.c 3 _ rfl
          have t4 := HV5.out.c 4 _ rfl
          have t5 := HV5.out.c 5 _ rfl
          have t6 := HV5.out.c 6 _ rfl
          have HJN : Hid (Calls Tryd.prog 59 #[.pointer (some ⟨w.heap.size + 1, 0, none⟩), .agg (setCs ov)] y4 fun e y => e = .returned (.tuple #[]) ∧ JnR (y4.alloc (.cells (setCs ov) 54)) (w.heap.size + 1) 0 (F.keptS f U i) ov 7 y) := join_any (w.heap.size + 1) 0 (F.keptS f U i) ov (F.keptS_s7 HU.out.may HU.out.cnt HU.out.s7 i hi) HOV7.out y4 HK5.out.b3.lt (fun q hq => HK5.out.b3.set q hq) (fun q hq => HK5.out.b3.f _)
          unfold setCs at HJN
          go_wp2_with fail
          refine Calls.mono HJN ?_
          rintro e y9 ⟨rfl, hj⟩
          have HN : Hid (KpI w f U (i + 1) y9) := by
            have hjx : JnR (y4.alloc (.cells (setCs ov) 54)) (w.heap.size + 1) 0 (F.keptS f U i) ov 7 y9 := hj
            have h1 := HK5.out.below (bl1 y4 (.cells (setCs ov) 54))
            refine ⟨h1.low.trans (hjx.1.below (by omega) h1.low.size), h1.b2.upd hjx.1 (by omega), ?_⟩
            have h2 := hjx.bx h1.b3
            have e1 : F.keptS f U (i + 1) = fun q => F.keptS f U i q ||| ov q := by
              show (if F.leavesK (F.at_ f i) = true then _ else _) = _
              rw [HXX.out, if_pos HLV.out, HOV.out]
            rw [e1]
            exact h2
          clear hj HJN t0 t1 t2 t3 t4 t5 t6
          go_wp2_with fail
          go_roundg (n - (i + 1))
          case measure => omega
          case rel => exact ⟨i + 1, rfl, by go_num, by omega, HN⟩
    · have hnn : ¬ (i : Int) < n := by omega
      have hin2 : i = n := by omega
      have HBB : Hid (Bx (put7 wr w.heap.size (F.keptS f U n)) w.heap.size (setCs (F.keptS f U n)).toList ∧ Below w.heap.size w (put7 wr w.heap.size (F.keptS f U n))) := ⟨put7_bx HI.out.b2, HI.out.low.trans (put7_below _ (Nat.le_refl _))⟩
      have HB3 : Hid (Bx wr (w.heap.size + 1) (setCs (F.keptS f U n)).toList) := by have h := HI.out.b3; rw [hin2] at h; exact h
      rw [HVV.out] at HBB HB3
      have t0 := HB3.out.c 0 _ rfl
      have t1 := HB3.out.c 1 _ rfl
      have t2 := HB3.out.c 2 _ rfl
      have t3 := HB3.out.c 3 _ rfl
      have t4 := HB3.out.c 4 _ rfl
      have t5 := HB3.out.c 5 _ rfl
      have t6 := HB3.out.c 6 _ rfl
      have e0 := HI.out.b2.c 0 _ rfl
      have f0 := HI.out.b2.f 0
      have e1 := HI.out.b2.c 1 _ rfl
      have f1 := HI.out.b2.f 1
      have e2 := HI.out.b2.c 2 _ rfl
      have f2 := HI.out.b2.f 2
      have e3 := HI.out.b2.c 3 _ rfl
      have f3 := HI.out.b2.f 3
      have e4 := HI.out.b2.c 4 _ rfl
      have f4 := HI.out.b2.f 4
      have e5 := HI.out.b2.c 5 _ rfl
      have f5 := HI.out.b2.f 5
      have e6 := HI.out.b2.c 6 _ rfl
      have f6 := HI.out.b2.f 6
      have g0 := HBB.out.1.c 0 _ rfl
      have g1 := HBB.out.1.c 1 _ rfl
      have g2 := HBB.out.1.c 2 _ rfl
      have g3 := HBB.out.1.c 3 _ rfl
      have g4 := HBB.out.1.c 4 _ rfl
      have g5 := HBB.out.1.c 5 _ rfl
      have g6 := HBB.out.1.c 6 _ rfl
      unfold put7 at g0 g1 g2 g3 g4 g5 g6
      clear hin2
      go_wp2_with fail
      refine bodyPost_ret (v := .agg (setCs vv)) ?_ rfl ?_
      · simp [results, Tryd.results48, go_sem, g0, g1, g2, g3, g4, g5, g6, setCs]
      · exact ⟨rfl, HBB.out.2⟩
end Go.Proofs.YtljgpngbkmembaaDoor

/- The pairs of temps that are live behind an operation. -/
namespace Go.Proofs.YtljgpngbkmembaaDoor
open Go.RowKit Go.Maps Go.Shelf
attribute [local go_sem] Oper.semAt_some
set_option linter.unusedVariables false
set_option linter.unusedSimpArgs false
namespace F
def keepP (d sm o : Int) : Bool := decide (o ≠ d) && decide (o ≠ sm)
def behL (d sm : Int) (l : List Int) : List (Int × Int) := (l.filter (keepP d sm)).map fun o => (d, o)
theorem behL_go {d sm o : Int} {l : List Int} {m : Nat} (h : l[m]? = some o) (hk : keepP d sm o = true) : behL d sm (l.take (m + 1)) = behL d sm (l.take m) ++ [(d, o)] := by
  unfold behL
  rw [List.take_add_one, h]
  simp [hk]
theorem behL_skip {d sm o : Int} {l : List Int} {m : Nat} (h : l[m]? = some o) (hk : keepP d sm o = false) : behL d sm (l.take (m + 1)) = behL d sm (l.take m) := by
  unfold behL
  rw [List.take_add_one, h]
  simp [hk]
theorem behL_at {d sm o : Int} {l : List Int} {m : Nat} (h : l[m]? = some o) (hk : keepP d sm o = true) : (behL d sm l)[(behL d sm (l.take m)).length]? = some (d, o) := by
  have e : behL d sm l = behL d sm (l.take (m + 1)) ++ behL d sm (l.drop (m + 1)) := by
    unfold behL
    rw [← List.map_append, ← List.filter_append, List.take_append_drop]
  rw [behL_go h hk, List.append_assoc] at e
  exact at_append e
/-- The temp that an operation makes the same as what it writes. -/
def smF (x : Op) : Int := if x.op = 2 then x.a else wr x
/-- The pairs behind an operation. -/
def behP (f : Fn) (U : Nat → Nat → Nat) (i : Nat) : List (Int × Int) := if wr (at_ f i) = -1 then [] else behL (wr (at_ f i)) (smF (at_ f i)) (els (orAll U (nxt (at_ f i) i)))
end F
/-- What lies while an operation's pairs are handed out. -/
structure ApB (J : Nat → World → Prop) (s b8 b9 l : Nat) (x : F.Op) (r : Ar) (d sm : Int) (N : Nat) (W : World) : Prop where
  j : J N W
  b5 : Bx W s [.func (.yield l) #[] #[]]
  b6 : Bx W (s + 1) [.bool false]
  b7 : Bx W (s + 2) (opC x r)
  b8 : Bx W b8 [.int .i64 d]
  b9 : Bx W b9 [.int .i64 d, .int .i64 sm]
theorem ApB.bel {J : Nat → World → Prop} {s b8 b9 l n0 m N : Nat} {x : F.Op} {r : Ar} {d sm : Int} {A B : World} (h : ApB J s b8 b9 l x r d sm N A) (hJ : ∀ k A B, J k A → Below n0 A B → J k B) (hb : Below m A B) (h1 : n0 ≤ m) (h2 : s + 2 < m) (h3 : b8 < m) (h4 : b9 < m) : ApB J s b8 b9 l x r d sm N B :=
  ⟨hJ _ _ _ h.j (hb.mono h1), h.b5.bel hb (by omega), h.b6.bel hb (by omega), h.b7.bel hb h2, h.b8.bel hb h3, h.b9.bel hb h4⟩
theorem ApB.abv {J : Nat → World → Prop} {s b8 b9 l n0 N N' : Nat} {x : F.Op} {r : Ar} {d sm : Int} {A B : World} (h : ApB J s b8 b9 l x r d sm N A) (hj : J N' B) (hb : Abv n0 A B) (h1 : n0 ≤ s) (h3 : n0 ≤ b8) (h4 : n0 ≤ b9) : ApB J s b8 b9 l x r d sm N' B :=
  ⟨hj, h.b5.abv hb h1, h.b6.abv hb (by omega), h.b7.abv hb (by omega), h.b8.abv hb h3, h.b9.abv hb h4⟩
set_option maxRecDepth 100000 in
set_option maxHeartbeats 8000000 in
theorem apartBehind_any {w : World} {b : Nat} {f : F.Fn} {a : Option Addr} {n c ga : Nat} {U : Nat → Nat → Nat} (hu : LfU f n U) {i : Nat} (hi : i < n) (l n0 : Nat) (J : Nat → World → Prop) (Jx : World → Prop)
    (hn : n0 ≤ w.heap.size) (hJ : ∀ k A B, J k A → Below n0 A B → J k B) (hJx : ∀ A B, Jx A → Below n0 A B → Jx B) (hR : ∀ k A, J k A → n0 ≤ A.heap.size ∧ LfV A b f a n c ga U) (hRx : ∀ A, Jx A → n0 ≤ A.heap.size)
    (hY : ∀ k (x : Int × Int) W, (F.behP f U i)[k]? = some x → J k W → YieldAt Fence.wide 0 Tryd.prog l #[.agg #[.int .i64 x.1, .int .i64 x.2]] W (YOut n0 W (J (k + 1)) Jx)) (h0 : J 0 w) :
    Calls Tryd.prog 62 #[.pointer (some ⟨b, 0, none⟩), .int .i64 i, .func (.yield l) #[] #[]] w (HOut J Jx (F.behP f U i).length) := by
  have hn2 : n ≤ 20000 := by have h1 := hu.cnt; have h2 := F.may_head hu.may; omega
  obtain ⟨x, hxx⟩ : ∃ x, F.at_ f i = x := ⟨_, rfl⟩
  obtain ⟨v, hv⟩ : ∃ v, F.orAll U (F.nxt x i) = v := ⟨_, rfl⟩
  have hopk := F.op_kind (F.may_op hu.may (i := i) (by rw [hu.cnt]; exact hi))
  rw [hxx] at hopk
  have HOPK : Hid _ := hopk
  have HV7 : Hid (F.Set7 v) := by
    show F.Set7 v
    rw [← hv, ← hxx]
    exact F.orAll_s7 hu.may hu.cnt hu.s7 hi
  have HBEH : Hid (∀ W k, J k W → Calls Tryd.prog 24 #[.pointer (some ⟨b, 0, none⟩), .int .i64 i] W fun e w' => e = .returned (.agg (setCs v)) ∧ Below W.heap.size W w') := fun W k hW => by
    rw [← hv, ← hxx]
    exact beh_any (hR k W hW).2 hu hi
  have HRR : Hid (∀ k A, J k A → n0 ≤ A.heap.size ∧ LfV A b f a n c ga U) := hR
  have HJ : Hid (∀ k A B, J k A → Below n0 A B → J k B) := hJ
  have HJX : Hid (∀ A B, Jx A → Below n0 A B → Jx B) := hJx
  have HXX : Hid (F.at_ f i = x) := hxx
  have HVV : Hid (F.orAll U (F.nxt x i) = v) := hv
  obtain ⟨W0, hW0⟩ : ∃ W0, (w.alloc (.cells #[.func (.yield l) #[] #[]] 105)).alloc (.cells #[.bool false] 4) = W0 := ⟨_, rfl⟩
  have HI0 : Hid (J 0 W0 ∧ Bx W0 w.heap.size [.func (.yield l) #[] #[]] ∧ Bx W0 (w.heap.size + 1) [.bool false] ∧ W0.heap.size = w.heap.size + 2) := by
    have x1 := Bx.new w #[.func (.yield l) #[] #[]] 105
    have b1 := bl1 w (.cells #[.func (.yield l) #[] #[]] 105)
    obtain ⟨A1, hA1⟩ : ∃ A1, w.alloc (.cells #[.func (.yield l) #[] #[]] 105) = A1 := ⟨_, rfl⟩
    have s1 : A1.heap.size = w.heap.size + 1 := by rw [← hA1]; simp
    rw [hA1] at x1 b1 hW0
    have x2 := Bx.new A1 #[.bool false] 4
    have b2 := bl1 A1 (.cells #[.bool false] 4)
    rw [hW0, s1] at x2
    rw [hW0] at b2
    exact ⟨HJ.out _ _ _ h0 ((b1.trans (b2.mono b1.size)).mono hn), x1.below b2, x2, by rw [← hW0]; simp [s1]⟩
  have hlf := (HRR.out _ _ HI0.out.1).2
  obtain ⟨bc, offc, r, rfl, hat, hnum⟩ := hlf.ops.at hi
  have hxx2 : f.code.getD i F.noOp = x := hxx
  rw [hxx2] at hat
  have c3 := hlf.c3
  obtain ⟨o0, o1, o2, o3, o4, o5, o6, o7, o8⟩ := hat
  have hwin : Hid (((0 ≤ F.wr x ∧ F.wr x < f.temps) ∨ F.wr x = -1) ∧ f.temps ≤ 400) := by
    have h := F.wr_in (F.may_op hu.may (i := i) (by rw [hu.cnt]; exact hi))
    rw [hxx] at h
    exact ⟨h, (F.may_head hu.may).2.2.1⟩
  have HWR : Hid (∀ k W, J k W → Calls Tryd.prog 64 #[opV x r] W fun e w' => e = .returned (.int .i64 (F.wr x)) ∧ Below W.heap.size W w') := fun k W hW => writes_any x r (k := x.op.toNat) (by omega) (by omega) W (HRR.out k W hW).2.env.shp
  have HN : Hid (n0 ≤ w.heap.size) := hn
  obtain ⟨d, hd⟩ : ∃ d, F.wr x = d := ⟨_, rfl⟩
  have HY : Hid (∀ k (z : Int × Int) W, (F.behP f U i)[k]? = some z → J k W → YieldAt Fence.wide 0 Tryd.prog l #[.agg #[.int .i64 z.1, .int .i64 z.2]] W (YOut n0 W (J (k + 1)) Jx)) := hY
  obtain ⟨bp, hbp⟩ : ∃ bp, F.behP f U i = bp := ⟨_, rfl⟩
  have HBP : Hid (bp = if d = -1 then [] else F.behL d (F.smF x) (F.els v)) := by show bp = _; rw [← hbp]; unfold F.behP; rw [hxx, hd, HVV.out]
  rw [hbp] at HY ⊢
  clear hY hbp
  have HD : Hid (F.wr x = d) := hd
  rw [hd] at HWR hwin
  unfold opV at HWR
  clear hlf hnum hxx2 hxx hopk hv hR hJ hJx hRx h0 hn hd
  obtain ⟨W1, hW1⟩ : ∃ W1, W0.alloc (.cells #[.int .i64 x.op, .int .i64 x.what, .string x.nm, .int .i64 x.d, .int .i64 x.a, .int .i64 x.b, .int .i64 x.n, .slice r.a r.l r.c, .int .i64 x.dest] 46) = W1 := ⟨_, rfl⟩
  have HI1 : Hid (J 0 W1 ∧ Bx W1 w.heap.size [.func (.yield l) #[] #[]] ∧ Bx W1 (w.heap.size + 1) [.bool false] ∧ Bx W1 (w.heap.size + 2) (opC x r) ∧ W1.heap.size = w.heap.size + 3) := by
    have h := HI0.out
    have b1 := bl1 W0 (.cells #[.int .i64 x.op, .int .i64 x.what, .string x.nm, .int .i64 x.d, .int .i64 x.a, .int .i64 x.b, .int .i64 x.n, .slice r.a r.l r.c, .int .i64 x.dest] 46)
    have x1 := Bx.new W0 (opC x r).toArray 46
    change Bx (W0.alloc (.cells #[.int .i64 x.op, .int .i64 x.what, .string x.nm, .int .i64 x.d, .int .i64 x.a, .int .i64 x.b, .int .i64 x.n, .slice r.a r.l r.c, .int .i64 x.dest] 46)) W0.heap.size (opC x r) at x1
    rw [hW1] at b1 x1
    rw [h.2.2.2] at x1
    exact ⟨HJ.out _ _ _ h.1 (b1.mono (by rw [h.2.2.2]; have := HN.out; omega)), h.2.1.below b1, h.2.2.1.below b1, x1, by rw [← hW1]; simp [h.2.2.2]⟩
  have hs0 : W0.heap.size = w.heap.size + 2 := HI0.out.2.2.2
  have p0 := HI1.out.2.2.2.1.c 0 _ rfl
  have p1 := HI1.out.2.2.2.1.c 1 _ rfl
  have p2 := HI1.out.2.2.2.1.c 2 _ rfl
  have p3 := HI1.out.2.2.2.1.c 3 _ rfl
  have p4 := HI1.out.2.2.2.1.c 4 _ rfl
  have p5 := HI1.out.2.2.2.1.c 5 _ rfl
  have p6 := HI1.out.2.2.2.1.c 6 _ rfl
  have p7 := HI1.out.2.2.2.1.c 7 _ rfl
  have p8 := HI1.out.2.2.2.1.c 8 _ rfl
  refine (callsIn_wide (n := 6)).1 ?_
  refine callsIn_of_wp_marks Tryd.func62 rfl trivial ?_ rfl
  simp only [Tryd.ntmps62, List.size_toArray, List.length_cons, List.length_nil, Nat.reduceAdd, Nat.reduceSub, Array.replicate_succ, Array.replicate_zero, List.push_toArray, List.append_toArray, List.nil_append, List.cons_append]
  gi_wp2
  refine ⟨trivial, (callsIn_wide.2 (HWR.out 0 W1 HI1.out.1)).mono ?_⟩
  rintro e y1 ⟨rfl, hb1⟩
  obtain ⟨b8, hb8⟩ : ∃ b8, y1.heap.size = b8 := ⟨_, rfl⟩
  obtain ⟨W2, hW2⟩ : ∃ W2, y1.alloc (.cells #[.int .i64 d] 3) = W2 := ⟨_, rfl⟩
  have HB8 : Hid (w.heap.size + 3 ≤ b8 ∧ n0 ≤ w.heap.size) := ⟨by rw [← hb8, ← HI1.out.2.2.2.2]; exact hb1.size, HN.out⟩
  have HI2 : Hid (J 0 W2 ∧ Bx W2 w.heap.size [.func (.yield l) #[] #[]] ∧ Bx W2 (w.heap.size + 1) [.bool false] ∧ Bx W2 (w.heap.size + 2) (opC x r) ∧ Bx W2 b8 [.int .i64 d] ∧ W2.heap.size = b8 + 1) := by
    have h := HI1.out
    have b2 := bl1 y1 (.cells #[.int .i64 d] 3)
    have x2 := Bx.new y1 #[.int .i64 d] 3
    rw [hW2] at b2 x2
    rw [hb8] at x2
    have hs := HB8.out
    exact ⟨HJ.out _ _ _ (HJ.out _ _ _ h.1 (hb1.mono (by rw [h.2.2.2.2]; omega))) (b2.mono (by omega)), (h.2.1.below hb1).below b2, (h.2.2.1.below hb1).below b2, (h.2.2.2.1.below hb1).below b2, x2, by rw [← hW2]; simp [hb8]⟩
  have c8 := HI2.out.2.2.2.2.1.c 0 _ rfl
  have c6 := HI2.out.2.2.1.c 0 _ rfl
  have f6 := HI2.out.2.2.1.f 0
  clear hb1 hs0 hW1 HI1 HI0 o0 o1 o2 o3 o4 o5 o6 o7 o8 p0 p1 p2 p3 p4 p5 p6 p7 p8 c3 hW0
  by_cases hd1 : d = -1
  · have HN0 : Hid (bp.length = 0) := by show _ = _; rw [HBP.out, if_pos hd1]; rfl
    have e1 : (d == -1) = true := by simpa using hd1
    clear hd1
    gi_wp2
    have g0 := (HI2.out.2.2.1.put 0 (by simp) (.bool true)).c 0 _ rfl
    have hs := HB8.out
    refine ⟨.bool true, ?_, .inl ⟨rfl, ?_⟩⟩
    · simp [results, Tryd.results62, go_sem, g0]
    · rw [HN0.out]
      exact HJ.out _ _ _ HI2.out.1 ((Below.refl _ _).setCell (by show n0 ≤ w.heap.size + 1; omega) _)
  · have HP : Hid (bp = F.behL d (F.smF x) (F.els v)) := by show bp = _; rw [HBP.out, if_neg hd1]
    have e1 : (d == -1) = false := by simpa using hd1
    have hs2 : W2.heap.size = b8 + 1 := HI2.out.2.2.2.2.2
    obtain ⟨W3, hW3⟩ : ∃ W3, W2.alloc (.cells #[.int .i64 d, .int .i64 d] 86) = W3 := ⟨_, rfl⟩
    have HI3 : Hid (ApB J w.heap.size b8 (b8 + 1) l x r d d 0 W3) := by
      have h := HI2.out
      have b3 := bl1 W2 (.cells #[.int .i64 d, .int .i64 d] 86)
      have x3 := Bx.new W2 #[.int .i64 d, .int .i64 d] 86
      rw [hW3] at b3 x3
      rw [hs2] at x3
      have hs := HB8.out
      exact ⟨HJ.out _ _ _ h.1 (b3.mono (by omega)), h.2.1.below b3, h.2.2.1.below b3, h.2.2.2.1.below b3, h.2.2.2.2.1.below b3, x3⟩
    have q0 := HI3.out.b7.c 0 _ rfl
    have q4 := HI3.out.b7.c 4 _ rfl
    have q9 := HI3.out.b9.c 1 _ rfl
    have f9 := HI3.out.b9.f 1
    rcases Decidable.em (x.op = 2) with h2 | h2
    case' inl =>
      have e2 : (x.op == 2) = true := by simpa using h2
      obtain ⟨W4, hW4⟩ : ∃ W4, W3.setCell ⟨b8 + 1, 1, none⟩ (.int .i64 x.a) = W4 := ⟨_, rfl⟩
      have HS : Hid (ApB J w.heap.size b8 (b8 + 1) l x r d (F.smF x) 0 W4) := by
        have h := HI3.out
        have hs := HB8.out
        have b4 : Below (b8 + 1) W3 W4 := by rw [← hW4]; exact (Below.refl _ _).setCell (by show b8 + 1 ≤ b8 + 1; omega) _
        have h9 := h.b9.put 1 (by simp) (.int .i64 x.a)
        rw [hW4] at h9
        refine ⟨HJ.out _ _ _ h.j (b4.mono (by omega)), h.b5.bel b4 (by omega), h.b6.bel b4 (by omega), h.b7.bel b4 (by omega), h.b8.bel b4 (by omega), ?_⟩
        unfold F.smF
        rw [if_pos h2]
        exact h9
    case' inr =>
      have e2 : (x.op == 2) = false := by simpa using h2
      obtain ⟨W4, rfl⟩ : ∃ W4, W4 = W3 := ⟨_, rfl⟩
      have HS : Hid (ApB J w.heap.size b8 (b8 + 1) l x r d (F.smF x) 0 W4) := by
        show ApB _ _ _ _ _ _ _ _ _ _ _
        unfold F.smF
        rw [if_neg h2, HD.out]
        exact HI3.out
    all_goals
      have HBH : Hid _ := HBEH.out W4 0 HS.out.j
      clear HI3 HI2 h2 hd1 c6 f6
      gi_wp2
      refine ⟨trivial, (callsIn_wide.2 HBH.out).mono ?_⟩
      rintro e y5 ⟨rfl, hb5⟩
      have HS5 : Hid (ApB J w.heap.size b8 (b8 + 1) l x r d (F.smF x) 0 y5 ∧ b8 + 1 < y5.heap.size) := by
        have h := HS.out
        have hs := HB8.out
        have hl := h.b9.lt
        exact ⟨h.bel HJ.out hb5 (by omega) (by omega) (by omega) hl, Nat.lt_of_lt_of_le hl hb5.size⟩
      have HAL : Hid (Calls Tryd.prog 25 #[.agg (setCs v)] y5 fun e w' => e = .returned (.func (.func 43) #[] #[.pointer (some ⟨y5.heap.size, 0, none⟩)]) ∧ w' = y5.alloc (.cells (setCs v) 54)) := all_any v y5
      unfold setCs at HAL
      clear hb5 HBH HS q0 q4 q9 f9 hW3
      gi_wp2
      refine ⟨trivial, (callsIn_wide.2 HAL.out).mono ?_⟩
      rintro e y6 ⟨rfl, rfl⟩
      clear HAL
      obtain ⟨WL, hWL⟩ : ∃ WL, y5.alloc (.cells (setCs v) 54) = WL := ⟨_, rfl⟩
      have hbl : Below y5.heap.size y5 WL := by rw [← hWL]; exact bl1 _ _
      have hxs := Bx.new y5 (setCs v) 54
      rw [hWL] at hxs
      obtain ⟨Bs, hBs⟩ : ∃ Bs, y5.heap.size = Bs := ⟨_, rfl⟩
      rw [hBs] at hxs hbl ⊢
      have HSL : Hid (WL.heap.size = Bs + 1 ∧ b8 + 1 < Bs ∧ w.heap.size + 3 ≤ b8 ∧ n0 ≤ w.heap.size) := ⟨by rw [← hWL]; simp [hBs], by have := HS5.out.2; omega, HB8.out.1, HB8.out.2⟩
      have HIL : Hid (ApB J w.heap.size b8 (b8 + 1) l x r d (F.smF x) 0 WL) := by
        have hs := HSL.out
        exact HS5.out.1.bel HJ.out hbl (by omega) (by omega) (by omega) (by omega)
      have HXS : Hid (Bx WL Bs (setCs v).toList) := hxs
      change y5.alloc (.cells #[.int .u64 (v 0 : Int), .int .u64 (v 1 : Int), .int .u64 (v 2 : Int), .int .u64 (v 3 : Int), .int .u64 (v 4 : Int), .int .u64 (v 5 : Int), .int .u64 (v 6 : Int)] 54) = WL at hWL
      have HWL : Hid _ := hWL
      clear hbl hxs hBs hWL HS5
      gi_wp2
      rw [HWL.out]
      clear HWL
      refine range_a1 (β := Int) (gf := 43) (lb := #[.pointer (some ⟨Bs, 0, none⟩)]) (enc := fun o : Int => #[.int .i64 o]) (xs := F.els v) (Rd := AllRd Bs v) (all_goes Bs v HV7.out).goes rfl (enters_of Tryd.func43 (by kernel_rfl) rfl)
        (fun m W => WL.heap.size ≤ W.heap.size ∧ ApB J w.heap.size b8 (b8 + 1) l x r d (F.smF x) (F.behL d (F.smF x) ((F.els v).take m)).length W ∧ Bx W Bs (setCs v).toList)
        (fun W => Jx W ∧ Bx W (w.heap.size + 1) [.bool false]) .ret ?_ (fun _ => rfl) ?_ ?_ ?_ ?_ ?_ ?_ ?_ ?_
      rotate_left
      · intro li o W K hK
        gi_wp2
        exact hK
      · rintro m A B ⟨h1, h2, h3⟩ hB
        have hs := HSL.out
        exact ⟨Nat.le_trans h1 hB.size, h2.bel HJ.out hB (by omega) (by omega) (by omega) (by omega), h3.bel hB (by omega)⟩
      · rintro A B ⟨h1, h2⟩ hB
        have hs := HSL.out
        exact ⟨HJX.out _ _ h1 (hB.mono (by omega)), h2.bel hB (by omega)⟩
      · rintro m A ⟨h1, h2, h3⟩
        exact ⟨h3.set, (HRR.out _ _ h2.j).2.env.tab⟩
      · refine ⟨Nat.le_refl _, ?_, HXS.out⟩
        have e1 : (F.behL d (F.smF x) ((F.els v).take 0)).length = 0 := rfl
        rw [e1]
        exact HIL.out
      · rintro lo m o W hk ⟨hsz, hA, hbs⟩ hl1 hl2 -
        have HK : Hid ((F.els v)[m]? = some o) := hk
        have HA : Hid (ApB J w.heap.size b8 (b8 + 1) l x r d (F.smF x) (F.behL d (F.smF x) ((F.els v).take m)).length W) := hA
        have HBS : Hid (Bx W Bs (setCs v).toList ∧ WL.heap.size ≤ W.heap.size) := ⟨hbs, hsz⟩
        obtain ⟨W5, hW5⟩ : ∃ W5, W.alloc (.cells #[.int .i64 d, .int .i64 o] 86) = W5 := ⟨_, rfl⟩
        obtain ⟨b11, hb11⟩ : ∃ b11, W.heap.size = b11 := ⟨_, rfl⟩
        have HA5 : Hid (ApB J w.heap.size b8 (b8 + 1) l x r d (F.smF x) (F.behL d (F.smF x) ((F.els v).take m)).length W5 ∧ Bx W5 b11 [.int .i64 d, .int .i64 o] ∧ Bx W5 Bs (setCs v).toList ∧ WL.heap.size ≤ W5.heap.size ∧ Abv WL.heap.size W W5) := by
          have b5 := bl1 W (.cells #[.int .i64 d, .int .i64 o] 86)
          have x5 := Bx.new W #[.int .i64 d, .int .i64 o] 86
          have hs := HSL.out
          rw [hW5] at b5 x5
          rw [hb11] at x5
          exact ⟨hA.bel HJ.out b5 (by omega) (by omega) (by omega) (by omega), x5, hbs.below b5, Nat.le_trans hsz b5.size, Abv.below b5⟩
        have c8 := hA.b8.c 0 _ rfl
        have d5 := HA5.out.1.b5.c 0 _ rfl
        have d6 := HA5.out.1.b6.c 0 _ rfl
        have z6 := HA5.out.1.b6.f 0
        have d8 := HA5.out.1.b8.c 0 _ rfl
        have d9 := HA5.out.1.b9.c 0 _ rfl
        have d90 := HA5.out.1.b9.c 1 _ rfl
        have d11 := HA5.out.2.1.c 0 _ rfl
        have d110 := HA5.out.2.1.c 1 _ rfl
        clear hk hsz hA hbs hl1 hl2 HXS HIL
        by_cases h1 : o = d
        · have hk0 : F.keepP d (F.smF x) o = false := by simp [F.keepP, h1]
          have HN5 : Hid ((F.behL d (F.smF x) ((F.els v).take (m + 1))).length = (F.behL d (F.smF x) ((F.els v).take m)).length) := by show _ = _; rw [F.behL_skip HK.out hk0]
          have e5 : (o != d) = false := by simpa using h1
          clear h1 hk0
          iterate 200 (try (first | go_values | gi_guarded | gi_step | gi_upon | gi_in | gi_back))
          refine ⟨fun _ _ => trivial, ?_⟩
          gi_wp2
          refine ⟨HA5.out.2.2.2.2, HA5.out.2.2.2.1, ?_, HA5.out.2.2.1⟩
          rw [HN5.out]
          exact HA5.out.1
        by_cases h2 : o = F.smF x
        · have hk0 : F.keepP d (F.smF x) o = false := by simp [F.keepP, h2]
          have HN5 : Hid ((F.behL d (F.smF x) ((F.els v).take (m + 1))).length = (F.behL d (F.smF x) ((F.els v).take m)).length) := by show _ = _; rw [F.behL_skip HK.out hk0]
          have e5 : (o != d) = true := by simpa using h1
          have e6 : (o == F.smF x) = true := by simpa using h2
          clear h1 h2 hk0
          iterate 200 (try (first | go_values | gi_guarded | gi_step | gi_upon | gi_in | gi_back))
          refine ⟨fun _ _ => trivial, ?_⟩
          gi_wp2
          refine ⟨HA5.out.2.2.2.2, HA5.out.2.2.2.1, ?_, HA5.out.2.2.1⟩
          rw [HN5.out]
          exact HA5.out.1
        · have hk0 : F.keepP d (F.smF x) o = true := by simp [F.keepP, h1, h2]
          have HKP : Hid (F.keepP d (F.smF x) o = true) := hk0
          have hx : bp[(F.behL d (F.smF x) ((F.els v).take m)).length]? = some (d, o) := by rw [HP.out]; exact F.behL_at HK.out hk0
          obtain ⟨fn, tmps, assign, body, hy, hR⟩ := HY.out _ _ W5 hx HA5.out.1.j
          have hR' := RoundIn.any (m' := 3) hR
          simp only at hy
          clear hR hx hk0
          gi_wp2
          refine RoundIn.mono (RoundIn.inRnd (RoundIn.any hR')) ?_
          rintro e w3 ⟨hab, ⟨rfl, hJ3⟩ | ⟨rfl, hJ3⟩⟩
          · have HN5 : Hid (Abv WL.heap.size W w3 ∧ WL.heap.size ≤ w3.heap.size ∧ ApB J w.heap.size b8 (b8 + 1) l x r d (F.smF x) (F.behL d (F.smF x) ((F.els v).take (m + 1))).length w3 ∧ Bx w3 Bs (setCs v).toList) := by
              obtain ⟨g1, g2, g3, g4, g5⟩ := HA5.out
              have hs := HSL.out
              refine ⟨g5.trans (hab.mono (by omega)), Nat.le_trans g4 hab.1, ApB.abv g1 ?_ hab (by omega) (by omega) (by omega), g3.abv hab (by omega)⟩
              rw [F.behL_go HK.out HKP.out, List.length_append]
              exact hJ3
            clear hJ3 hR' hy hab c8 d5 d6 z6 d8 d9 d90 d11 d110
            gi_wp2
            exact HN5.out
          · have HN5 : Hid (Jx w3 ∧ Abv n0 W5 w3) := ⟨hJ3, hab⟩
            have c4' := (HA5.out.1.b6.abv hab (by have := HSL.out; omega)).c 0 _ rfl
            have f4' := (HA5.out.1.b6.abv hab (by have := HSL.out; omega)).f 0
            clear hJ3 hR' hy hab c8 d5 d6 z6 d8 d9 d90 d11 d110
            gi_wp2
            have hs := HSL.out
            have hb4 := (HA5.out.1.b6.abv HN5.out.2 (by omega)).put 0 (by simp) (.bool false)
            refine ⟨rfl, (HA5.out.2.2.2.2.trans (HN5.out.2.mono (by omega))).trans (Abv.set _ _ _ (by show w.heap.size + 1 < _; omega)), HJX.out _ _ HN5.out.1 ((Below.refl _ _).setCell (by show n0 ≤ w.heap.size + 1; omega) _), hb4⟩
      · rintro D W hD ⟨h1, h2, h3⟩ hK
        have HK : Hid _ := hK
        have H1 : Hid (ApB J w.heap.size b8 (b8 + 1) l x r d (F.smF x) (F.behL d (F.smF x) (F.els v)).length W) := by rw [List.take_length] at h2; exact h2
        have c4 := h2.b6.c 0 _ rfl
        have f4 := h2.b6.f 0
        have HWS : Hid (WL.heap.size ≤ W.heap.size) := h1
        clear h1 h2 h3 hK
        gi_wp2
        have hs := HSL.out
        have hws := HWS.out
        have hb := H1.out.b6.put 0 (by simp) (.bool true)
        have hk' : (W.setCell ⟨w.heap.size + 1, 0, none⟩ (.bool true)).heap[D]? = some (.deferred (some [])) := (Below.heap_setCell _ _ _ _ (by show D ≠ w.heap.size + 1; omega)).trans HK.out
        have hb2 := hb.obj hk' rfl (.deferred none)
        have g0 := hb2.c 0 _ rfl
        refine ⟨by simp, .inl ⟨_, _, rfl, run_takeDeferred hk', ?_⟩⟩
        refine ⟨.bool true, ?_, .inl ⟨rfl, ?_⟩⟩
        · simp [results, Tryd.results62, go_sem, g0]
        · rw [HP.out]
          exact HJ.out _ _ _ (HJ.out _ _ _ H1.out.j ((Below.refl _ _).setCell (by show n0 ≤ w.heap.size + 1; omega) _)) (below_put _ _ (by omega))
      · rintro D W hD ⟨h1, h2⟩ hK
        have HK : Hid _ := hK
        have HJ1 : Hid (Jx W) := h1
        have HB : Hid (Bx W (w.heap.size + 1) [.bool false]) := h2
        have c4 := h2.c 0 _ rfl
        clear h1 h2 hK
        gi_wp2
        have hs := HSL.out
        have hb2 := HB.out.obj HK.out rfl (.deferred none)
        have g0 := hb2.c 0 _ rfl
        refine ⟨by simp, .inl ⟨_, _, rfl, run_takeDeferred HK.out, ?_⟩⟩
        refine ⟨.bool false, ?_, .inr ⟨rfl, ?_⟩⟩
        · simp [results, Tryd.results62, go_sem, g0]
        · exact HJX.out _ _ HJ1.out (below_put _ _ (by omega))
end Go.Proofs.YtljgpngbkmembaaDoor

/- All the pairs of temps whose places are to be unlike. -/
namespace Go.Proofs.YtljgpngbkmembaaDoor
open Go.RowKit Go.Maps Go.Shelf
attribute [local go_sem] Oper.semAt_some
set_option linter.unusedVariables false
set_option linter.unusedSimpArgs false
namespace F
/-- The pairs at the beginning and behind the first k operations. -/
def doneP (f : Fn) (U : Nat → Nat → Nat) (k : Nat) : List (Int × Int) := pairsF (els (insAll (U 0) (upto f.params))) ++ (List.range k).flatMap (behP f U)
theorem doneP_zero (f : Fn) (U : Nat → Nat → Nat) : doneP f U 0 = pairsF (els (insAll (U 0) (upto f.params))) := by simp [doneP]
theorem doneP_succ (f : Fn) (U : Nat → Nat → Nat) (k : Nat) : doneP f U (k + 1) = doneP f U k ++ behP f U k := by
  unfold doneP
  rw [List.range_succ, List.flatMap_append, List.append_assoc]
  simp
theorem doneP_pre (f : Fn) (U : Nat → Nat → Nat) {k n : Nat} (h : k ≤ n) : ∃ r, doneP f U n = doneP f U k ++ r := by
  induction n with
  | zero => exact ⟨[], by rw [show k = 0 by omega, List.append_nil]⟩
  | succ n ih =>
    by_cases e : k = n + 1
    · exact ⟨[], by rw [e, List.append_nil]⟩
    · obtain ⟨r, hr⟩ := ih (by omega)
      exact ⟨r ++ behP f U n, by rw [doneP_succ, hr, List.append_assoc]⟩
theorem doneP_first {f : Fn} {U : Nat → Nat → Nat} {n k : Nat} {z : Int × Int} (h : (pairsF (els (insAll (U 0) (upto f.params))))[k]? = some z) : (doneP f U n)[k]? = some z := by
  unfold doneP
  rw [List.getElem?_append_left (List.getElem?_eq_some_iff.1 h).1]
  exact h
theorem doneP_beh {f : Fn} {U : Nat → Nat → Nat} {n i k : Nat} {z : Int × Int} (hi : i < n) (h : (behP f U i)[k]? = some z) : (doneP f U n)[(doneP f U i).length + k]? = some z := by
  obtain ⟨r, hr⟩ := doneP_pre f U (show i + 1 ≤ n by omega)
  rw [hr, doneP_succ, List.append_assoc, List.getElem?_append_right (by omega), Nat.add_sub_cancel_left, List.getElem?_append_left (List.getElem?_eq_some_iff.1 h).1]
  exact h
end F
def ApRd (Bp b : Nat) (f : F.Fn) (a : Option Addr) (n c ga : Nat) (U : Nat → Nat → Nat) (W : World) : Prop := W.cell? ⟨Bp, 0, none⟩ = some (.pointer (some ⟨b, 0, none⟩)) ∧ LfV W b f a n c ga U
set_option maxRecDepth 100000 in
set_option maxHeartbeats 8000000 in
theorem apart_goes {b Bp : Nat} {f : F.Fn} {a : Option Addr} {n c ga : Nat} {U : Nat → Nat → Nat} (hu : LfU f n U) :
    Goes Tryd.prog 60 #[.pointer (some ⟨Bp, 0, none⟩)] (fun z : Int × Int => #[.agg #[.int .i64 z.1, .int .i64 z.2]]) (F.doneP f U n) (ApRd Bp b f a n c ga U) := by
  intro l n0 J Jx W1 hn hJ hJx hR hRx hY h0
  have hn2 : n ≤ 20000 := by have h1 := hu.cnt; have h2 := F.may_head hu.may; omega
  have HF : Hid _ := apartFirst_any (w := W1) (b := b) hu l n0 J Jx (by omega) hJ hJx (fun k A h => ⟨(hR k A h).1, (hR k A h).2.2⟩) hRx (fun k x W hx hj => hY k x W (F.doneP_first hx) hj) h0
  have HB : Hid (∀ (i : Nat) (W : World), i < n → J (F.doneP f U i).length W → Calls Tryd.prog 62 #[.pointer (some ⟨b, 0, none⟩), .int .i64 i, .func (.yield l) #[] #[]] W (HOut (fun k => J ((F.doneP f U i).length + k)) Jx (F.behP f U i).length)) := fun i W hi hW =>
    apartBehind_any hu hi l n0 (fun k => J ((F.doneP f U i).length + k)) Jx (hR _ _ hW).1 (fun k A B => hJ _ A B) hJx (fun k A h => ⟨(hR _ A h).1, (hR _ A h).2.2⟩) hRx (fun k x W hx hj => hY _ x W (F.doneP_beh hi hx) hj) hW
  have HR : Hid (∀ k A, J k A → n0 ≤ A.heap.size ∧ ApRd Bp b f a n c ga U A) := hR
  have p0 := (hR _ _ h0).2.1
  clear hJ hJx hR hRx hY h0 hn
  refine (callsIn_wide (n := 6)).1 ?_
  refine callsIn_of_wp Tryd.func60 rfl trivial ?_ rfl
  simp only [Tryd.ntmps60, List.size_toArray, List.length_cons, List.length_nil, Nat.reduceAdd, Nat.reduceSub, Array.replicate_succ, Array.replicate_zero, List.push_toArray, List.append_toArray, List.nil_append, List.cons_append]
  gi_wp2
  refine ⟨trivial, (callsIn_wide.2 HF.out).mono ?_⟩
  rintro e y1 (⟨rfl, hj⟩ | ⟨rfl, hj⟩)
  · have HJ1 : Hid (J (F.doneP f U 0).length y1) := by show J _ _; rw [F.doneP_zero]; exact hj
    have q0 := (HR.out _ _ HJ1.out).2.1
    have q3 := (HR.out _ _ HJ1.out).2.2.c3
    clear hj HF p0
    gi_wp2
    clear q0 q3
    gi_loopw [3, 14] (fun tv xv wr => ∃ (i : Nat), xv = .int .i64 i ∧ i ≤ n ∧ Hid (J (F.doneP f U i).length wr)) (fun _ xv _ => n - (intOf xv).toNat)
    case atStart => exact ⟨0, rfl, Nat.zero_le _, HJ1⟩
    case round =>
      obtain ⟨i, rfl, hi, HI⟩ := hrel
      by_cases hin : i < n
      · have hil : (i : Int) < n := by omega
        have q0 := (HR.out _ _ HI.out).2.1
        have HBI : Hid _ := HB.out i wr hin HI.out
        gi_wp2
        refine ⟨trivial, (callsIn_wide.2 HBI.out).mono ?_⟩
        rintro e y2 (⟨rfl, hj⟩ | ⟨rfl, hj⟩)
        · have HN : Hid (J (F.doneP f U (i + 1)).length y2) := by show J _ _; rw [F.doneP_succ, List.length_append]; exact hj
          clear hj HBI q0
          gi_wp2
          go_roundw
          case rel => exact ⟨i + 1, by go_num, by omega, HN⟩
          case measure => simp [intOf]; omega
        · have HN : Hid (Jx y2) := hj
          clear hj HBI q0
          gi_wp2
          refine bodyPost_ret (results_none rfl _ _ _) rfl ?_
          exact ⟨⟨_, rfl⟩, .inr HN.out⟩
      · have hnn : ¬ (i : Int) < n := by omega
        have HN : Hid (J (F.doneP f U n).length wr) := by
          have h := HI.out
          rwa [show i = n by omega] at h
        gi_wp2
        go_end0
        exact ⟨⟨_, rfl⟩, .inl HN.out⟩
  · have HJ1 : Hid (Jx y1) := hj
    clear hj HF p0
    gi_wp2
    refine bodyPost_ret (results_none rfl _ _ _) rfl ?_
    exact ⟨⟨_, rfl⟩, .inr HJ1.out⟩
theorem apart_any (b : Nat) (w : World) : Calls Tryd.prog 46 #[.pointer (some ⟨b, 0, none⟩)] w fun e w' => e = .returned (.func (.func 60) #[] #[.pointer (some ⟨w.heap.size, 0, none⟩)]) ∧ w' = w.alloc (.cells #[.pointer (some ⟨b, 0, none⟩)] 47) := by
  go_enter Tryd.func46, Tryd.ntmps46
  go_wp2_with fail
  go_ret
  exact ⟨rfl, rfl⟩
end Go.Proofs.YtljgpngbkmembaaDoor

/- Who is in what is handed out: the temps behind an operation, those at the beginning, those that are kept, the pairs. No walk. -/
namespace Go.Proofs.YtljgpngbkmembaaDoor
open Go.RowKit Go.Maps Go.Shelf
set_option linter.unusedVariables false
set_option linter.unusedSimpArgs false
namespace F
theorem mem_pairsF {l : List Int} {p : Int × Int} : p ∈ pairsF l ↔ p.1 ∈ l ∧ p.2 ∈ l ∧ p.1 < p.2 := by
  unfold pairsF rowF
  simp only [List.mem_flatMap, List.mem_map, List.mem_filter, decide_eq_true_eq]
  constructor
  · rintro ⟨a, ha, o, ⟨ho, hl⟩, rfl⟩
    exact ⟨ha, ho, hl⟩
  · rintro ⟨h1, h2, h3⟩
    exact ⟨p.1, h1, p.2, ⟨h2, h3⟩, rfl⟩
theorem mem_behL {d sm : Int} {l : List Int} {p : Int × Int} : p ∈ behL d sm l ↔ p.1 = d ∧ p.2 ∈ l ∧ p.2 ≠ d ∧ p.2 ≠ sm := by
  unfold behL keepP
  simp only [List.mem_map, List.mem_filter, Bool.and_eq_true, decide_eq_true_eq]
  constructor
  · rintro ⟨o, ⟨ho, h1, h2⟩, rfl⟩
    exact ⟨rfl, ho, h1, h2⟩
  · rintro ⟨h1, h2, h3, h4⟩
    exact ⟨p.2, ⟨h2, h3, h4⟩, by rw [← h1]⟩
theorem mem_behP {f : Fn} {U : Nat → Nat → Nat} {i : Nat} {p : Int × Int} : p ∈ behP f U i ↔ wr (at_ f i) ≠ -1 ∧ p.1 = wr (at_ f i) ∧ p.2 ∈ els (orAll U (nxt (at_ f i) i)) ∧ p.2 ≠ wr (at_ f i) ∧ p.2 ≠ smF (at_ f i) := by
  unfold behP
  by_cases h : wr (at_ f i) = -1
  · rw [if_pos h]
    simp [h]
  · rw [if_neg h, mem_behL]
    simp [h]
theorem mem_doneP {f : Fn} {U : Nat → Nat → Nat} {n : Nat} {p : Int × Int} : p ∈ doneP f U n ↔ p ∈ pairsF (els (insAll (U 0) (upto f.params))) ∨ ∃ i, i < n ∧ p ∈ behP f U i := by
  unfold doneP
  rw [List.mem_append, List.mem_flatMap]
  simp only [List.mem_range]
theorem mem_upto {p t : Int} : t ∈ upto p ↔ 0 ≤ t ∧ t < p := by
  unfold upto
  rw [List.mem_map]
  constructor
  · rintro ⟨k, hk, rfl⟩
    have := List.mem_range.1 hk
    exact ⟨Int.natCast_nonneg k, by show (k : Int) < p; omega⟩
  · rintro ⟨h1, h2⟩
    exact ⟨t.toNat, List.mem_range.2 (by omega), by show ((t.toNat : Nat) : Int) = t; omega⟩
/-- Those that are live ahead of an operation. -/
theorem live_at {f : Fn} {n : Nat} {U : Nat → Nat → Nat} (hu : LfU f n U) {i : Nat} (hi : i < n) {t : Int} : t ∈ els (U i) ↔ Lv f i t := by
  rw [mem_els]
  constructor
  · rintro ⟨k, rfl, hk, hm⟩
    exact (hu.lv i hi k hk).1 hm
  · intro h
    have ht := Lv.temp hu.may h
    have hh := may_head hu.may
    refine ⟨t.toNat, by omega, by omega, (hu.lv i hi _ (by omega)).2 ?_⟩
    rwa [show ((t.toNat : Nat) : Int) = t by omega]
/-- Those behind it. -/
theorem live_beh {f : Fn} {n : Nat} {U : Nat → Nat → Nat} (hu : LfU f n U) {i : Nat} (hi : i < n) {t : Int} : t ∈ els (orAll U (nxt (at_ f i) i)) ↔ ∃ j ∈ nxt (at_ f i) i, Lv f j t := by
  have hn : ∀ j ∈ nxt (at_ f i) i, j < n := fun j hj => by have := nxt_in hu.may (by rw [hu.cnt]; exact hi : i < f.code.length) j hj; rwa [hu.cnt] at this
  rw [mem_els]
  constructor
  · rintro ⟨k, rfl, hk, hm⟩
    rw [mem_orAll, List.any_eq_true] at hm
    obtain ⟨j, hj, h⟩ := hm
    exact ⟨j, hj, (hu.lv j (hn j hj) k hk).1 h⟩
  · rintro ⟨j, hj, h⟩
    have ht := Lv.temp hu.may h
    have hh := may_head hu.may
    refine ⟨t.toNat, by omega, by omega, ?_⟩
    rw [mem_orAll, List.any_eq_true]
    refine ⟨j, hj, (hu.lv j (hn j hj) _ (by omega)).2 ?_⟩
    rwa [show ((t.toNat : Nat) : Int) = t by omega]
/-- Those at the beginning, and the parameters. -/
theorem live_first {f : Fn} {n : Nat} {U : Nat → Nat → Nat} (hu : LfU f n U) {t : Int} : t ∈ els (insAll (U 0) (upto f.params)) ↔ Lv f 0 t ∨ (0 ≤ t ∧ t < f.params) := by
  have hh := may_head hu.may
  have hn : 0 < n := by have := hu.cnt; omega
  rw [mem_els]
  constructor
  · rintro ⟨k, rfl, hk, hm⟩
    rw [mem_insAll, Bool.or_eq_true, List.any_eq_true] at hm
    rcases hm with hm | ⟨o, ho, he⟩
    · exact .inl ((hu.lv 0 hn k hk).1 hm)
    · have h1 := mem_upto.1 ho
      have h2 := of_decide_eq_true he
      exact .inr (by omega)
  · rintro (h | h)
    · have ht := Lv.temp hu.may h
      refine ⟨t.toNat, by omega, by omega, ?_⟩
      rw [mem_insAll, Bool.or_eq_true]
      refine .inl ((hu.lv 0 hn _ (by omega)).2 ?_)
      rwa [show ((t.toNat : Nat) : Int) = t by omega]
    · refine ⟨t.toNat, by omega, by omega, ?_⟩
      rw [mem_insAll, Bool.or_eq_true, List.any_eq_true]
      exact .inr ⟨t, mem_upto.2 h, by simp⟩
/-- Those that are kept over an operation that leaves. -/
theorem live_kept {f : Fn} {n : Nat} {U : Nat → Nat → Nat} (hu : LfU f n U) {t : Int} : t ∈ els (keptS f U n) ↔ ∃ i, i < n ∧ leavesK (at_ f i) = true ∧ (∃ j ∈ nxt (at_ f i) i, Lv f j t) ∧ t ≠ wr (at_ f i) := by
  have hh := may_head hu.may
  have hov : ∀ i, i < n → ∀ k : Nat, k < 448 → (mem (overS f U i) k = true ↔ ((k : Int) ∈ els (orAll U (nxt (at_ f i) i)) ∧ (k : Int) ≠ wr (at_ f i))) := by
    intro i hi k hk
    have hw := wr_in (may_op hu.may (by rw [hu.cnt]; exact hi : i < f.code.length))
    have he : ((k : Int) ∈ els (orAll U (nxt (at_ f i) i))) ↔ mem (orAll U (nxt (at_ f i) i)) k = true := by
      rw [mem_els]
      constructor
      · rintro ⟨q, hq, _, hm⟩
        rwa [show k = q by omega]
      · intro hm
        exact ⟨k, rfl, hk, hm⟩
    rw [he]
    unfold overS
    by_cases hw1 : wr (at_ f i) = -1
    · rw [if_pos hw1, hw1]
      constructor
      · intro h; exact ⟨h, by omega⟩
      · intro h; exact h.1
    · rw [if_neg hw1, mem_del (orAll_s7 hu.may hu.cnt hu.s7 hi) _ hk, Bool.and_eq_true, decide_eq_true_eq]
      constructor
      · rintro ⟨h1, h2⟩; exact ⟨h1, by omega⟩
      · rintro ⟨h1, h2⟩; exact ⟨h1, by omega⟩
  rw [mem_els]
  constructor
  · rintro ⟨k, rfl, hk, hm⟩
    obtain ⟨i, hi, hl, ho⟩ := (mem_kept k n).1 hm
    obtain ⟨h1, h2⟩ := (hov i hi k hk).1 ho
    exact ⟨i, hi, hl, (live_beh hu hi).1 h1, h2⟩
  · rintro ⟨i, hi, hl, hj, hw⟩
    obtain ⟨j, hj1, hj2⟩ := hj
    have ht := Lv.temp hu.may hj2
    refine ⟨t.toNat, by omega, by omega, (mem_kept _ n).2 ⟨i, hi, hl, (hov i hi _ (by omega)).2 ?_⟩⟩
    rw [show ((t.toNat : Nat) : Int) = t by omega]
    exact ⟨(live_beh hu hi).2 ⟨j, hj1, hj2⟩, hw⟩
theorem kept_in {f : Fn} {n : Nat} {U : Nat → Nat → Nat} (hu : LfU f n U) {t : Int} (h : t ∈ els (keptS f U n)) : 0 ≤ t ∧ t < f.temps := by
  obtain ⟨i, _, _, ⟨j, _, hl⟩, _⟩ := (live_kept hu).1 h
  exact Lv.temp hu.may hl
theorem pair_in {f : Fn} {n : Nat} {U : Nat → Nat → Nat} (hu : LfU f n U) {p : Int × Int} (h : p ∈ doneP f U n) : (0 ≤ p.1 ∧ p.1 < f.temps) ∧ (0 ≤ p.2 ∧ p.2 < f.temps) := by
  have hh := may_head hu.may
  rcases mem_doneP.1 h with h | ⟨i, hi, h⟩
  · obtain ⟨h1, h2, _⟩ := mem_pairsF.1 h
    have hf : ∀ t : Int, t ∈ els (insAll (U 0) (upto f.params)) → 0 ≤ t ∧ t < f.temps := fun t ht => by
      rcases (live_first hu).1 ht with g | g
      · exact Lv.temp hu.may g
      · omega
    exact ⟨hf _ h1, hf _ h2⟩
  · obtain ⟨h1, h2, h3, _, _⟩ := mem_behP.1 h
    obtain ⟨j, _, hl⟩ := (live_beh hu hi).1 h3
    have hw := wr_in (may_op hu.may (by rw [hu.cnt]; exact hi : i < f.code.length))
    exact ⟨by rw [h2]; omega, Lv.temp hu.may hl⟩
end F
end Go.Proofs.YtljgpngbkmembaaDoor
