/- The document's Start is what step.Start comes to. (Written by gen_refall.py.) -/
import Derived.Test.YtneclfaamgfoeaaDoorEBe
import Derived.Test.YtneclfaamgfoeaaDoorEAn
import Derived.Test.YtneclfaamgfoeaaDoorEBj
import Derived.Test.YtneclfaamgfoeaaDoorEBk
import Derived.Test.YtneclfaamgfoeaaDoorEBl
import Derived.Test.YtneclfaamgfoeaaDoorEBm
import Derived.Test.YtneclfaamgfoeaaDoorEBn
import Derived.Test.YtneclfaamgfoeaaDoorEBo
import Derived.Test.YtneclfaamgfoeaaDoorEBp
import Derived.Test.YtneclfaamgfoeaaDoorEBq
namespace Go.Proofs.YtneclfaamgfoeaaDoor
open Go.RowKit
set_option linter.unusedVariables false

theorem rd_wf (c : S.C) (hok : c.ok) (k : Nat) (h : k < 8) : (Lit.int .i64 (c.rd k)).wf = true := by
  obtain ⟨⟨h0, h1, h2, h3⟩, ⟨h4, h5, h6, h7⟩, _⟩ := hok
  rcases (show k = 0 ∨ k = 1 ∨ k = 2 ∨ k = 3 ∨ k = 4 ∨ k = 5 ∨ k = 6 ∨ k = 7 by omega) with rfl | rfl | rfl | rfl | rfl | rfl | rfl | rfl <;> assumption
theorem wrap_wf (x : Int) (h : (Lit.int .i64 x).wf = true) : wrap64 x = x := by
  simp [Lit.wf, IntKind.min, IntKind.max, IntKind.signed, IntKind.bits] at h
  exact W.wrap_id x (by omega) (by omega)
theorem rd_list (c : S.C) (k : Nat) (h : k < 8) : ([.int .i64 c.r0, .int .i64 c.r1, .int .i64 c.r2, .int .i64 c.r3, .int .i64 c.r4, .int .i64 c.r5, .int .i64 c.r6, .int .i64 c.r7, .int .i64 c.pc, .int .i64 c.st, .int .i64 c.tr] : List Value)[k]? = some (.int .i64 (c.rd k)) := by
  rcases (show k = 0 ∨ k = 1 ∨ k = 2 ∨ k = 3 ∨ k = 4 ∨ k = 5 ∨ k = 6 ∨ k = 7 by omega) with rfl | rfl | rfl | rfl | rfl | rfl | rfl | rfl <;> rfl

theorem ret_start {x y : S.C} {q r : S.Q} (h : x = y) (h2 : q = r) : Ending.returned (.tuple #[x.v, q.w]) = .returned (.tuple #[y.v, r.w]) := by rw [h, h2]

theorem rstart_known (c : S.C) (hok : c.ok) (op : Int) (a b : Nat) (ha : a < 8) (hb : b < 8) (n size : Int) (hs : (c.st != 0) = false) (h1 : 1 ≤ op) (h33 : op ≤ 33) (w : World) :
    Calls Tryd.prog 50 #[c.v, S.insV op a b n, .int .i64 size] w fun e w' => e = .returned (.tuple #[(S.turned c op a b n (wrap64 (c.pc + size))).v, (S.asked c op a b n (wrap64 (c.pc + size))).w]) ∧ Below w.heap.size w w' := by
  have la := rd_list c a ha
  have lb := rd_list c b hb
  have wa := wrap_wf _ (rd_wf c hok a ha)
  have wb := wrap_wf _ (rd_wf c hok b hb)
  have w7 := wrap_wf _ (rd_wf c hok 7 (by omega))
  by_cases hc : 3 ≤ op ∧ op ≤ 16
  · rw [S.turned_comp hc, S.asked_no (by omega)]
    by_cases he : W.binE op (wrap64 (c.rd b)) = 0
    · rw [S.computed_yes he, wa, wb]
      rw [wb] at he
      exact rstart_comp c a b ha hb n size hs _ _ op _ hc.1 hc.2 (rd_wf c hok a ha) (show Hid _ from rfl) he la lb w
    · rw [S.computed_no he]
      rw [wb] at he
      exact rstart_trap c a b ha hb n size hs _ _ op _ hc.1 hc.2 (rd_wf c hok a ha) (show Hid _ from rfl) he la lb w
  by_cases e17 : op = 17
  · subst e17
    refine (rstart_17 c a b ha hb n size hs _ _ la lb w).mono ?_
    rintro e w' ⟨rfl, hbb⟩
    exact ⟨ret_start (by rw [S.turned_stay (by omega) (by omega) (S.jumps_no (by omega) (by omega) (by omega))]; rw [S.moved_no (by omega)]) rfl, hbb⟩
  by_cases e18 : op = 18
  · subst e18
    refine (rstart_18 c a b ha hb n size hs _ _ la lb w).mono ?_
    rintro e w' ⟨rfl, hbb⟩
    exact ⟨ret_start (by rw [S.turned_stay (by omega) (by omega) (S.jumps_no (by omega) (by omega) (by omega))]; rw [S.moved_no (by omega)]) (by show _ = S.Q.mk 2 _ (wrap64 (c.rd b)) 0; rw [wb]), hbb⟩
  by_cases e28 : op = 28
  · subst e28
    refine (rstart_28 c a b ha hb n size hs _ _ la lb w).mono ?_
    rintro e w' ⟨rfl, hbb⟩
    exact ⟨ret_start (by rw [S.turned_stay (by omega) (by omega) (S.jumps_no (by omega) (by omega) (by omega))]; rw [S.moved_no (by omega)]) (by show _ = S.Q.mk 3 _ (wrap64 (c.rd b)) b; rw [wb]), hbb⟩
  by_cases e29 : op = 29
  · subst e29
    refine (rstart_29 c a b ha hb n size hs _ _ la lb w).mono ?_
    rintro e w' ⟨rfl, hbb⟩
    exact ⟨ret_start (by rw [S.turned_stay (by omega) (by omega) (S.jumps_no (by omega) (by omega) (by omega))]; rw [S.moved_no (by omega)]) (by show _ = S.Q.mk 4 _ (wrap64 (c.rd b)) b; rw [wb]), hbb⟩
  by_cases e23 : op = 23
  · subst e23
    refine (rstart_23 c a b ha hb n size hs _ _ la lb w).mono ?_
    rintro e w' ⟨rfl, hbb⟩
    exact ⟨ret_start (by rw [S.turned_jump (by omega) (by omega) (S.jumps_yes (by omega))]; show _ = S.C.mk _ _ _ _ _ _ _ (wrap64 (c.r7 + -8)) _ _ _; rw [← Int.sub_eq_add_neg]; rfl) (by show _ = S.Q.mk 2 (wrap64 (c.r7 + -8)) _ 0; rw [← Int.sub_eq_add_neg]), hbb⟩
  by_cases e24 : op = 24
  · subst e24
    refine (rstart_24 c a b ha hb n size hs _ _ la lb w).mono ?_
    rintro e w' ⟨rfl, hbb⟩
    exact ⟨ret_start (by rw [S.turned_stay (by omega) (by omega) (S.jumps_no (by omega) (by omega) (by omega))]; rfl) (by show _ = S.Q.mk 1 (wrap64 (c.rd 7)) 0 8; rw [w7]; rfl), hbb⟩
  by_cases e20 : op = 20
  · subst e20
    refine (rstart_20 c a b ha hb n size hs _ _ la lb w).mono ?_
    rintro e w' ⟨rfl, hbb⟩
    exact ⟨ret_start (by rw [S.turned_jump (by omega) (by omega) (S.jumps_yes (by omega))]; rw [S.moved_no (by omega)]) (S.asked_no (by omega)).symm, hbb⟩
  by_cases e25 : op = 25
  · subst e25
    refine (rstart_25 c a b ha hb n size hs _ _ la lb w).mono ?_
    rintro e w' ⟨rfl, hbb⟩
    exact ⟨ret_start (by rw [S.turned_jump (by omega) (by omega) (S.jumps_yes (by omega))]; rw [S.moved_no (by omega)]) (S.asked_no (by omega)).symm, hbb⟩
  by_cases e21 : op = 21
  · subst e21
    by_cases hx : c.rd a = 0
    · refine (rstart_21j c a b ha hb n size hs _ _ hx la lb w).mono ?_
      rintro e w' ⟨rfl, hbb⟩
      exact ⟨ret_start (by rw [S.turned_jump (by omega) (by omega) (by rw [S.jumps_z (by omega), wa]; simp [hx])]; rw [S.moved_no (by omega)]) (S.asked_no (by omega)).symm, hbb⟩
    · refine (rstart_21s c a b ha hb n size hs _ _ hx la lb w).mono ?_
      rintro e w' ⟨rfl, hbb⟩
      exact ⟨ret_start (by rw [S.turned_stay (by omega) (by omega) (by rw [S.jumps_z (by omega), wa]; simp [hx])]; rw [S.moved_no (by omega)]) (S.asked_no (by omega)).symm, hbb⟩
  by_cases e26 : op = 26
  · subst e26
    by_cases hx : c.rd a = 0
    · refine (rstart_26j c a b ha hb n size hs _ _ hx la lb w).mono ?_
      rintro e w' ⟨rfl, hbb⟩
      exact ⟨ret_start (by rw [S.turned_jump (by omega) (by omega) (by rw [S.jumps_z (by omega), wa]; simp [hx])]; rw [S.moved_no (by omega)]) (S.asked_no (by omega)).symm, hbb⟩
    · refine (rstart_26s c a b ha hb n size hs _ _ hx la lb w).mono ?_
      rintro e w' ⟨rfl, hbb⟩
      exact ⟨ret_start (by rw [S.turned_stay (by omega) (by omega) (by rw [S.jumps_z (by omega), wa]; simp [hx])]; rw [S.moved_no (by omega)]) (S.asked_no (by omega)).symm, hbb⟩
  by_cases e22 : op = 22
  · subst e22
    by_cases hx : c.rd a = 0
    · refine (rstart_22s c a b ha hb n size hs _ _ hx la lb w).mono ?_
      rintro e w' ⟨rfl, hbb⟩
      exact ⟨ret_start (by rw [S.turned_stay (by omega) (by omega) (by rw [S.jumps_nz (by omega), wa]; simp [hx])]; rw [S.moved_no (by omega)]) (S.asked_no (by omega)).symm, hbb⟩
    · refine (rstart_22j c a b ha hb n size hs _ _ hx la lb w).mono ?_
      rintro e w' ⟨rfl, hbb⟩
      exact ⟨ret_start (by rw [S.turned_jump (by omega) (by omega) (by rw [S.jumps_nz (by omega), wa]; simp [hx])]; rw [S.moved_no (by omega)]) (S.asked_no (by omega)).symm, hbb⟩
  by_cases e27 : op = 27
  · subst e27
    by_cases hx : c.rd a = 0
    · refine (rstart_27s c a b ha hb n size hs _ _ hx la lb w).mono ?_
      rintro e w' ⟨rfl, hbb⟩
      exact ⟨ret_start (by rw [S.turned_stay (by omega) (by omega) (by rw [S.jumps_nz (by omega), wa]; simp [hx])]; rw [S.moved_no (by omega)]) (S.asked_no (by omega)).symm, hbb⟩
    · refine (rstart_27j c a b ha hb n size hs _ _ hx la lb w).mono ?_
      rintro e w' ⟨rfl, hbb⟩
      exact ⟨ret_start (by rw [S.turned_jump (by omega) (by omega) (by rw [S.jumps_nz (by omega), wa]; simp [hx])]; rw [S.moved_no (by omega)]) (S.asked_no (by omega)).symm, hbb⟩
  by_cases e30 : op = 30
  · subst e30
    refine (rstart_30 c a b ha hb n size hs _ _ la lb w).mono ?_
    rintro e w' ⟨rfl, hbb⟩
    exact ⟨ret_start (by rw [S.turned_stay (by omega) (by omega) (S.jumps_no (by omega) (by omega) (by omega))]; rw [S.moved_no (by omega)]) rfl, hbb⟩
  by_cases e31 : op = 31
  · subst e31
    refine (rstart_31 c a b ha hb n size hs _ _ la lb w).mono ?_
    rintro e w' ⟨rfl, hbb⟩
    exact ⟨ret_start (by rw [S.turned_stay (by omega) (by omega) (S.jumps_no (by omega) (by omega) (by omega))]; rw [S.moved_no (by omega)]) (by show _ = S.Q.mk 6 0 (wrap64 (c.rd a)) 0; rw [wa]), hbb⟩
  by_cases e32 : op = 32
  · subst e32
    refine (rstart_32 c a b ha hb n size hs _ _ la lb w).mono ?_
    rintro e w' ⟨rfl, hbb⟩
    exact ⟨ret_start (by rw [S.turned_stay (by omega) (by omega) (S.jumps_no (by omega) (by omega) (by omega))]; rfl) rfl, hbb⟩
  by_cases e33 : op = 33
  · subst e33
    refine (rstart_33 c a b ha hb n size hs _ _ la lb w).mono ?_
    rintro e w' ⟨rfl, hbb⟩
    exact ⟨ret_start S.turned_33.symm (S.asked_no (by omega)).symm, hbb⟩
  by_cases e1 : op = 1
  · subst e1
    refine (rstart_1 c a b ha hb n size hs _ _ la lb w).mono ?_
    rintro e w' ⟨rfl, hbb⟩
    exact ⟨ret_start (by rw [S.turned_stay (by omega) (by omega) (S.jumps_no (by omega) (by omega) (by omega))]; rfl) (S.asked_no (by omega)).symm, hbb⟩
  by_cases e19 : op = 19
  · subst e19
    refine (rstart_19 c a b ha hb n size hs _ _ la lb w).mono ?_
    rintro e w' ⟨rfl, hbb⟩
    exact ⟨ret_start (by rw [S.turned_stay (by omega) (by omega) (S.jumps_no (by omega) (by omega) (by omega))]; rfl) (S.asked_no (by omega)).symm, hbb⟩
  by_cases e2 : op = 2
  · subst e2
    refine (rstart_2 c a b ha hb n size hs _ _ la lb w).mono ?_
    rintro e w' ⟨rfl, hbb⟩
    exact ⟨ret_start (by rw [S.turned_stay (by omega) (by omega) (S.jumps_no (by omega) (by omega) (by omega))]; rw [show S.moved c 2 a b n = c.put a (wrap64 (c.rd b)) from rfl, wb]) (S.asked_no (by omega)).symm, hbb⟩
  omega

theorem rstart_any (c : S.C) (hok : c.ok) (op a b n size : Int) (w : World) :
    Calls Tryd.prog 50 #[c.v, S.insV op a b n, .int .i64 size] w fun e w' => e = .returned (.tuple #[(S.startC c op a b n size).v, (S.startQ c op a b n size).w]) ∧ Below w.heap.size w w' := by
  by_cases hs : c.st = 0
  · have hs' : (c.st != 0) = false := by simp [hs]
    cases hk : S.known op a b with
    | false =>
      have hd : S.does c op a b = false := by unfold S.does; rw [hk]; simp
      unfold S.startC S.startQ
      rw [if_neg (by rw [hd]; decide), if_neg (by rw [hd]; decide)]
      have hn := of_decide_eq_false hk
      by_cases ho : op < 1 ∨ 33 < op
      · exact rstart_nop c op a b n size hs' ho w
      by_cases h1 : a < 0
      · exact rstart_alo c op a b n size hs' (by omega) (by omega) h1 w
      by_cases h2 : 7 < a
      · exact rstart_ahi c op a b n size hs' (by omega) (by omega) h2 w
      by_cases h3 : b < 0
      · exact rstart_blo c op a b n size hs' (by omega) (by omega) (by omega) (by omega) h3 w
      · exact rstart_bhi c op a b n size hs' (by omega) (by omega) (by omega) (by omega) (by omega) w
    | true =>
      have hd : S.does c op a b = true := by unfold S.does; rw [hk, decide_eq_true hs]; rfl
      have hb := of_decide_eq_true hk
      unfold S.startC S.startQ
      rw [if_pos hd, if_pos hd]
      obtain ⟨x, rfl⟩ : ∃ x : Nat, a = x := ⟨a.toNat, by omega⟩
      obtain ⟨y, rfl⟩ : ∃ y : Nat, b = y := ⟨b.toNat, by omega⟩
      exact rstart_known c hok op x y (by omega) (by omega) n size hs' (by omega) (by omega) w
  · have hd : S.does c op a b = false := by unfold S.does; rw [decide_eq_false hs]; rfl
    unfold S.startC S.startQ
    rw [if_neg (by rw [hd]; decide), if_neg (by rw [hd]; decide)]
    exact rstart_st c op a b n size (by simp [hs]) w

end Go.Proofs.YtneclfaamgfoeaaDoor
