/- Lists of objects, as they lie; whether all may be. -/
import Derived.Test.YtaoklmphcgigeaaLinkElem
import Derived.Test.YtaoklmphcgigeaaObjCheckB
namespace Go.Proofs.Ytaoklmphcgigeaa
open Go.RowKit
set_option linter.unusedVariables false
set_option linter.unusedSimpArgs false

def noObj : ObjD := ⟨.empty, [], [], []⟩
/-- The slices of an object. -/
structure Sl where
  a1 : Option Addr
  l1 : Nat
  c1 : Nat
  a2 : Option Addr
  l2 : Nat
  c2 : Nat
  a3 : Option Addr
  l3 : Nat
  c3 : Nat
/-- An object's cells, from this place on, in one world; what they lead to, in another. -/
structure OC (w : World) (b o : Nat) (d : ObjD) (s : Sl) : Prop where
  k0 : w.cell? ⟨b, o, none⟩ = some (.string d.code)
  k1 : w.cell? ⟨b, o + 1, none⟩ = some (.slice s.a1 s.l1 s.c1)
  k2 : w.cell? ⟨b, o + 2, none⟩ = some (.slice s.a2 s.l2 s.c2)
  k3 : w.cell? ⟨b, o + 3, none⟩ = some (.slice s.a3 s.l3 s.c3)
/-- What an object's slices lead to. -/
structure OV (w : World) (d : ObjD) (s : Sl) : Prop where
  code : d.code.size ≤ maxLen
  ints : IntsV w s.a1 s.l1 s.c1 d.data
  syms : SymsV w s.a2 s.l2 s.c2 d.syms
  rels : RelsV w s.a3 s.l3 s.c3 d.rels
def Sl.val (s : Sl) (d : ObjD) : Value := .agg #[.string d.code, .slice s.a1 s.l1 s.c1, .slice s.a2 s.l2 s.c2, .slice s.a3 s.l3 s.c3]
theorem OV.objV {w : World} {d : ObjD} {s : Sl} (h : OV w d s) : ObjV w (s.val d) d := ⟨⟨s.a1, s.l1, s.c1, s.a2, s.l2, s.c2, s.a3, s.l3, s.c3, rfl, h.code, h.ints, h.syms, h.rels⟩⟩
theorem OV.below {w w1 : World} {d : ObjD} {s : Sl} (h : OV w d s) (hb : Below w.heap.size w w1) : OV w1 d s := ⟨h.code, h.ints.below hb, h.syms.below hb, h.rels.below hb⟩
theorem OC.below {w w1 : World} {b o : Nat} {d : ObjD} {s : Sl} (h : OC w b o d s) (hb : Below w.heap.size w w1) : OC w1 b o d s := ⟨cell_thru hb h.k0, cell_thru hb h.k1, cell_thru hb h.k2, cell_thru hb h.k3⟩
structure ObjsV (w : World) (a : Option Addr) (l c : Nat) (os : List ObjD) : Prop where
  count : os.length = l
  room : l ≤ maxLen
  nilOf : a = none → l = 0 ∧ c = 0
  cells : l = 0 ∨ ∃ b off, a = some ⟨b, off, none⟩ ∧ ∀ i, i < l → ∃ s, OC w b (off + i * 4) (os.getD i noObj) s ∧ OV w (os.getD i noObj) s
theorem ObjsV.below {w w1 : World} {a : Option Addr} {l c : Nat} {os : List ObjD} (h : ObjsV w a l c os) (hb : Below w.heap.size w w1) : ObjsV w1 a l c os := by
  refine ⟨h.count, h.room, h.nilOf, ?_⟩
  rcases h.cells with h0 | ⟨b, off, ha, hc⟩
  · exact .inl h0
  · exact .inr ⟨b, off, ha, fun i hi => by obtain ⟨s, h1, h2⟩ := hc i hi; exact ⟨s, h1.below hb, h2.below hb⟩⟩
/-- Objects that may be linked, as far as each one goes. -/
def mayAll (os : List ObjD) : Bool := decide (os.length ≤ 16) && os.all ObjD.may
theorem all_drop {os : List ObjD} {k : Nat} (hk : k < os.length) : (os.drop k).all ObjD.may = ((os.getD k noObj).may && (os.drop (k + 1)).all ObjD.may) := by
  rw [List.drop_eq_getElem_cons hk]
  have : os.getD k noObj = os[k] := by simp [List.getD, hk]
  rw [this]
  rfl

set_option maxRecDepth 100000 in
set_option maxHeartbeats 4000000 in
theorem mayBe_any {w : World} {a : Option Addr} {l c : Nat} {os : List ObjD} (h : ObjsV w a l c os) :
    Calls Try.prog 20 #[.slice a l c] w fun e w' => e = .returned (.bool (mayAll os)) ∧ Below w.heap.size w w' := by
  have HV : Hid _ := h
  have hcnt := h.count
  clear h
  by_cases hbig : (16 : Int) < l
  · have HNO : Hid (mayAll os = false) := by show _ = _; unfold mayAll; rw [show decide (os.length ≤ 16) = false from decide_eq_false (by omega), Bool.false_and]
    go_enter Try.func20, Try.ntmps20
    go_wp2
    go_ret
    exact ⟨by rw [HNO.out]; rfl, Below.refl _ _⟩
  have HYES : Hid (mayAll os = os.all ObjD.may) := by show _ = _; unfold mayAll; rw [show decide (os.length ≤ 16) = true from decide_eq_true (by omega), Bool.true_and]
  go_enter Try.func20, Try.ntmps20
  go_wp2_with fail
  go_loopg [4, 10] l (fun r sl iv wq => ∃ (k : Nat), iv = .int .i64 k ∧ k ≤ l ∧ l - k ≤ r ∧ Hid (mayAll os = (os.drop k).all ObjD.may) ∧ Hid (Below w.heap.size w wq))
  case atStart => exact ⟨0, rfl, Nat.zero_le _, by omega, HYES.out, Below.refl _ _⟩
  case round =>
    obtain ⟨k, rfl, hk, hr, HA, HB⟩ := hrel
    by_cases hlt : k < l
    · rcases HV.out.cells with h0 | ⟨b, off, hA, hc⟩
      · omega
      obtain ⟨s, hC, hO⟩ := hc k hlt
      have hC := hC.below HB.out
      have HO : Hid _ := hO.below HB.out
      have HD : Hid _ := all_drop (os := os) (k := k) (by omega)
      obtain ⟨k0, k1, k2, k3⟩ := hC
      generalize os.getD k noObj = d at *
      subst hA
      have hin : 0 ≤ (k : Int) := by omega
      have hii : (k : Int) < l := by omega
      clear hc hO
      go_wp2_with fail
      refine (check_any (HO.out.below (bl_one _ _)).objV).mono ?_
      rintro e x ⟨rfl, hb⟩
      have hbx : Below w.heap.size w x := (HB.out.trans ((bl_one _ _).mono HB.out.size)).trans (hb.mono (by have := HB.out.size; simp; omega))
      cases hm : d.may with
      | true =>
        have HE : Hid (mayAll os = (os.drop (k + 1)).all ObjD.may) := by show _ = _; rw [HA.out, HD.out, hm, Bool.true_and]
        clear HD HA hm
        simp only [if_true]
        go_wp2_with fail
        go_roundg (l - (k + 1))
        case measure => omega
        case rel => exact ⟨k + 1, by go_num, by omega, Nat.le_refl _, HE.out, hbx⟩
      | false =>
        have HE : Hid (mayAll os = false) := by show _ = _; rw [HA.out, HD.out, hm, Bool.false_and]
        clear HD HA hm
        simp only [Bool.false_eq_true, if_false]
        go_wp2
        go_ret
        exact ⟨by rw [HE.out]; rfl, hbx⟩
    · obtain rfl : k = l := by omega
      have hfull : os.drop k = [] := by rw [← hcnt]; simp
      have HF : Hid (mayAll os = true) := by have := HA.out; rw [hfull] at this; exact this
      have hii : ¬ (k : Int) < k := by omega
      go_wp2
      go_ret
      exact ⟨by rw [HF.out]; rfl, HB.out⟩
end Go.Proofs.Ytaoklmphcgigeaa
