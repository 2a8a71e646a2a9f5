/- How long lists of items can be: the reach that the form gives. -/
import Derived.Test.YtafdjmccgijmnaaHiOpen
import Derived.SizedLaws
import Derived.Test.YtafdjmccgijmnaaHGa
import Derived.Test.YtafdjmccgijmnaaHiAft
import Derived.Laws.StructEq
namespace Go.Proofs.Ytafdjmccgijmnaa
open Go.ChangeShapes Go.WideShapes Go.ChangeAt Go.RowKit Go.Joins A

theorem weightsAll_of {H' : Type} {P : Program} {e : TypeId} : ∀ {l : List (DataW H')} {d : DataW H'}, d ∈ l → ∀ n ∈ d.weights P e, n ∈ DataW.weightsAll P e l
  | d' :: r, d, hd, n, hn => by
    simp only [DataW.weightsAll, List.mem_append]
    rcases List.mem_cons.1 hd with rfl | h
    · exact Or.inl hn
    · exact Or.inr (weightsAll_of h n hn)
theorem bytes8 : Try.prog.bytesOf 2 = 8 := by kernel_rfl

section
variable {H' : Type} {enc : TypeId × Value → H'} {w : World} {base : Nat} {spare : Nat → Bool} {held : Bool}
theorem sized_I {fuel : Nat} {a : Option Addr} {l c : Nat} {x : DataW H' × List MemPlace} {R : Nat} (h : DataW.trod enc Try.prog w base spare held fuel 47 [.slice a l c] = some x) (hR : ∀ n ∈ x.1.weights Try.prog 47, n ≤ R) : l * 8 ≤ R := by
  rcases open_ints Try.underlying47 Try.underlying2 cell_i64 h with ⟨hcs, -⟩ | ⟨a', l', c', zs, hcs, -, hl, hm, hz, rfl, -, -⟩
  · simp at hcs
    omega
  · simp at hcs
    obtain ⟨-, rfl, rfl⟩ := hcs
    have := hR ((((lits (H := H') .i64 (zs.take l)).length + (lits (H := H') .i64 (zs.drop l)).length) * Try.prog.bytesOf 2)) (by simp [DataW.weights, Try.underlying47])
    rw [bytes8] at this
    have h1 : (lits (H := H') .i64 (zs.take l)).length = l := by
      simp only [lits, List.length_map, List.length_take]
      have : l ≤ zs.length := by rw [hz]; split <;> omega
      omega
    rw [h1] at this
    omega
set_option maxRecDepth 100000 in
theorem sized_A {fuel : Nat} {u0 u1 u2 : Value} {a : Option Addr} {l c : Nat} {x : DataW H' × List MemPlace} {R : Nat} (h : DataW.trod enc Try.prog w base spare held fuel 49 [u0, u1, u2, .slice a l c] = some x) (hR : ∀ n ∈ x.1.weights Try.prog 49, n ≤ R) : l * 8 ≤ R := by
  obtain ⟨y0, y1, y2, y3, n, rfl, hl, h0, h1, h2, h3⟩ := trod_struct4 Try.underlying49 h
  simp only [cell_int, cell_str, cell_sl] at h0 h1 h2 h3
  refine sized_I (by simpa using h3) (fun n hn => hR n ?_)
  simp only [DataW.weights, Try.underlying49]
  simp only [List.map_cons, List.map_nil, DataW.weightsEach, List.mem_append]
  exact Or.inr (Or.inr (Or.inr (Or.inl hn)))
set_option maxRecDepth 100000 in
theorem trod_A0 {fuel : Nat} {cs : List Value} {x : DataW H' × List MemPlace} (h : DataW.trod enc Try.prog w base spare held fuel 49 cs = some x) : ∃ (u0 u1 u2 : Value) (a1 : Option Addr) (l1 c1 : Nat), cs = [u0, u1, u2, .slice a1 l1 c1] := by
  obtain ⟨y0, y1, y2, y3, n, -, hl, h0, h1, h2, h3⟩ := trod_struct4 Try.underlying49 h
  rw [cell_A] at hl
  match cs, hl with
  | [u0, u1, u2, u3], _ =>
    simp only [cell_int, cell_str, cell_sl] at h0 h1 h2 h3
    rcases open_ints Try.underlying47 Try.underlying2 cell_i64 h3 with ⟨hcs, -⟩ | ⟨a', l', c', zs, hcs, -⟩
    · simp at hcs; subst hcs; exact ⟨_, _, _, _, _, _, rfl⟩
    · simp at hcs; subst hcs; exact ⟨_, _, _, _, _, _, rfl⟩
theorem sized_As {fuel : Nat} {a : Option Addr} {len cap : Nat} {os : List At} {x : DataW H' × List MemPlace} {R : Nat} (hv : AtsV w a len cap os) (h : DataW.trod enc Try.prog w base spare held fuel 22 [.slice a len cap] = some x) (hR : ∀ n ∈ x.1.weights Try.prog 22, n ≤ R) : ∀ r ∈ os, r.items.length * 8 ≤ R := by
  intro r hr
  obtain ⟨i, hi, rfl⟩ := List.getElem_of_mem hr
  rw [hv.count] at hi
  rcases Deep.open_slice Try.underlying22 h with ⟨hcs, -⟩ | ⟨a', len', cap', m, n, D, Pl, hcs, -, hl, hm, hmm, rfl, hx⟩
  · simp at hcs; omega
  · simp at hcs
    obtain ⟨rfl, rfl, rfl⟩ := hcs
    have him : i < m := by rw [hmm]; split <;> omega
    obtain ⟨cs', h1, h2⟩ := hx i him
    rw [cell_A] at h1
    obtain ⟨u0, u1, u2, a1, l1, c1, rfl⟩ := trod_A0 h2
    rcases hv.cells with h0 | ⟨b, off, ha, hc⟩
    · omega
    obtain ⟨-, -, -, a2, l2, c2, k3, V⟩ := hc i hi
    obtain ⟨-, -, hxx⟩ := World.cells?_some h1
    cases ha
    have e3 := hxx 3 (by decide)
    rw [Addr.add_add, Addr.add_lit] at e3
    have e4 : some (Value.slice a2 l2 c2) = some (Value.slice a1 l1 c1) := by
      rw [← k3, ← Nat.add_assoc] at *
      exact e3
    cases e4
    have hlen : (os[i]'(by rw [hv.count]; exact hi)).items.length = l1 := by
      have := V.count
      simpa [List.getD, show i < os.length by rw [hv.count]; exact hi] using this
    rw [hlen]
    refine sized_A h2 (fun n hn => hR n ?_)
    simp only [DataW.weights, Try.underlying22, List.mem_cons, List.mem_append]
    exact Or.inr (Or.inl (weightsAll_of (List.mem_map.2 ⟨i, List.mem_range.2 hi, rfl⟩) n hn))
end
end Go.Proofs.Ytafdjmccgijmnaa

/- HistOrders: an order of any history is one; and where none is found, there is none. -/
namespace Go.Proofs.Ytafdjmccgijmnaa
open Go.RowKit A Go.Maps
set_option linter.unusedVariables false
set_option linter.unusedSimpArgs false
theorem eqAct (a b : Int) (s : ByteArray) (c d e f : Int) (w : World) : (Op.equalIn 10000 42 (.agg #[.int .i64 a, .int .i64 b, .string s, .int .i64 c, .int .i64 d, .int .i64 e, .int .i64 f]) (.agg #[.int .i64 a, .int .i64 b, .string s, .int .i64 c, .int .i64 d, .int .i64 e, .int .i64 f])).run Try.prog w = .ok true w := by
  go_simp
set_option maxRecDepth 100000 in
set_option maxHeartbeats 8000000 in
theorem sameC_any {w : World} {a a2 : Option Addr} {l c c2 : Nat} {ts : List H.Ac} (h1 : ActsV w a l c ts) (h2 : ActsV w a2 l c2 ts) :
    Calls Try.prog 14 #[.slice a l c, .slice a2 l c2] w fun e w' => e = .returned (.bool true) ∧ Below w.heap.size w w' := by
  have HA : Hid (ActsV w a l c ts) := h1
  have HB2 : Hid (ActsV w a2 l c2 ts) := h2
  have hm1 := h1.room
  have hm2 := h2.room
  have hmax : maxLen = 9223372036854775807 := rfl
  have heq : ∀ (a b : Int) (s : ByteArray) (c d e f : Int) (w : World), (Op.equalIn 10000 42 (.agg #[.int .i64 a, .int .i64 b, .string s, .int .i64 c, .int .i64 d, .int .i64 e, .int .i64 f]) (.agg #[.int .i64 a, .int .i64 b, .string s, .int .i64 c, .int .i64 d, .int .i64 e, .int .i64 f])).run Try.prog w = .ok true w := eqAct
  clear h1 h2
  go_enter Try.func14, Try.ntmps14
  go_wp2_with fail
  go_loopg [5] l (fun r iv wq => ∃ (k : Nat), r = l - k ∧ iv = .int .i64 k ∧ k ≤ l ∧ Hid (Below w.heap.size w wq))
  case atStart => exact ⟨0, rfl, rfl, Nat.zero_le _, Below.refl _ _⟩
  case round =>
    obtain ⟨k, rfl, rfl, hk, HB⟩ := hrel
    by_cases hlt : k < l
    · have hii : (k : Int) < l := by omega
      have hin : 0 ≤ (k : Int) := by omega
      obtain ⟨b, off, e1, p0, p1, p2, p3, p4, p5, p6⟩ := (HA.out.below HB.out).at hlt
      obtain ⟨b', off', e2, q0, q1, q2, q3, q4, q5, q6⟩ := (HB2.out.below HB.out).at hlt
      subst e1 e2
      obtain ⟨x, hx⟩ : ∃ x, ts.getD k H.noAc = x := ⟨_, rfl⟩
      rw [hx] at p0 p1 p2 p3 p4 p5 p6 q0 q1 q2 q3 q4 q5 q6
      clear hx
      obtain ⟨th, dd, nm, arg, call, back, ans⟩ := x
      simp only at p0 p1 p2 p3 p4 p5 p6 q0 q1 q2 q3 q4 q5 q6
      go_wp2_with fail
      go_region
      have HBD : Hid (Below w.heap.size w wr.drew) := HB.out.drew
      go_wp2
      go_roundg (l - (k + 1))
      case measure => omega
      case rel => exact ⟨k + 1, rfl, by go_num, by omega, HBD⟩
    · obtain rfl : k = l := by omega
      have hii : ¬ (k : Int) < k := by omega
      go_wp2_with fail
      go_ret
      exact ⟨rfl, HB.out⟩
set_option maxRecDepth 100000 in
theorem r13May_any {w : World} {a : Option Addr} {l c : Nat} {ts : List H.Ac} (h : ActsV w a l c ts) :
    Calls Try.prog 12 #[.slice a l c] w fun e w' => e = .returned (.bool (H.mayH ts)) ∧ Below w.heap.size w w' := by
  have hm := rMayBe_any h
  obtain ⟨r, hr⟩ : ∃ r, H.mayH ts = r := ⟨_, rfl⟩
  rw [hr] at hm ⊢
  clear h hr
  go_enter Try.func12, Try.ntmps12
  go_wp2_with fail
  refine hm.mono ?_
  rintro e y ⟨rfl, hy⟩
  have HY : Hid (Below w.heap.size w y) := hy
  clear hy hm
  go_wp2_with fail
  go_ret
  exact ⟨rfl, HY.out⟩
theorem numsV_of {W : World} {B : Nat} {a : Option Addr} {n c : Nat} {ns : List Nat} (h : W.ownsRow B 3 1 (.slice a n c) ns.length (ns.map nV)) (hn : ns.length = n) (hb : ∀ x ∈ ns, x < 60) : NumsV W a n c (ns.map Int.ofNat) := by
  rw [hn] at h
  have hv := nv_of_row h hn
  refine ⟨by rw [List.length_map]; exact hn, hv.room, fun x hx => ?_, hv.cells.imp id fun ⟨b, off, e, hc⟩ => ⟨b, off, e, fun i hi => ?_⟩⟩
  · obtain ⟨k, hk, rfl⟩ := List.mem_map.1 hx
    have := hb k hk
    constructor
    · show (-9223372036854775808 : Int) ≤ (k : Int)
      omega
    · show (k : Int) ≤ 9223372036854775807
      omega
  · rw [hc i hi]
    have hi' : i < ns.length := by omega
    simp [List.getD, hi', nV]
theorem ok_lt {σ : Type} {p : H.Pb σ} : ∀ (o : List Nat) (d : Nat) (s : σ), p.Ok d s o → ∀ x ∈ o, x < p.n
  | [], d, s, _, x, hx => by cases hx
  | k :: o, d, s, h, x, hx => by
    obtain ⟨hk, hf, s', hs, hr⟩ := h
    rcases List.mem_cons.1 hx with rfl | hx
    · exact hk
    · exact ok_lt o _ _ hr x hx
set_option maxRecDepth 100000 in
set_option maxHeartbeats 16000000 in
theorem ordersL_any {w : World} {a aa : Option Addr} {lo c l cc : Nat} {os : List At} {ts : List H.Ac} (hO : AtsV w a lo c os) (hit : ∀ x ∈ os, x.items.length * 8 ≤ 140737488355328) (hA : ActsV w aa l cc ts) (hf : ∀ r ∈ ts, AcFit r) (hnil : aa = none → l = 0 ∧ cc = 0) :
    Calls Try.prog 3 #[.slice a lo c, .slice aa l cc] w fun e w' => e = .returned (.bool true) ∧ Below w.heap.size w w' := by
  have HO : Hid (AtsV w a lo c os) := hO
  have HA : Hid (ActsV w aa l cc ts) := hA
  have HTC : Hid (ts.length = l) := hA.count
  have HOC : Hid (os.length = lo) := hO.count
  have HNIL : Hid (aa = none → l = 0 ∧ cc = 0) := hnil
  have HARG : Hid (∀ r ∈ ts, (Lit.int .i64 r.arg).wf = true) := fun r hr => (hf r hr).2.2.2.1
  have HIT : Hid (∀ x ∈ os, x.items.length * 8 ≤ 140737488355328) := hit
  have hmx := hA.room
  have hmax : maxLen = 9223372036854775807 := rfl
  have HL : Hid (∀ W, Calls Try.prog 9 #[] W fun e w' => e = .returned (.bool true) ∧ Below W.heap.size W w') := fun W => live_any W
  obtain ⟨i7, hi7, hz70, hz71, hz72⟩ := hinfo infoAct
  clear hO hA hf hnil hit
  have hfew := few_any (w := w) (a := a) (aa := aa) (lo := lo) (c := c) (l := l) (cc := cc)
  by_cases hsm : lo ≤ 10 ∧ l ≤ 12
  rotate_left
  · have e1 : (decide (lo ≤ 10) && decide (l ≤ 12)) = false := by
      rw [Bool.and_eq_false_iff, decide_eq_false_iff_not, decide_eq_false_iff_not]
      omega
    rw [e1] at hfew
    clear hsm e1
    go_enter Try.func3, Try.ntmps3
    go_wp2_with fail
    refine hfew.mono ?_
    rintro e y ⟨rfl, hy⟩
    rw [hy]
    clear hy hfew
    go_wp2_with fail
    refine (HL.out _).mono ?_
    rintro e y ⟨rfl, hy⟩
    have HY : Hid (Below w.heap.size w y) := hy
    clear hy
    go_wp2_with fail
    go_ret
    exact ⟨rfl, HY.out⟩
  rw [decide_eq_true hsm.1, decide_eq_true hsm.2] at hfew
  have hl12 : l ≤ 12 := hsm.2
  have hlo10 : lo ≤ 10 := hsm.1
  have hcp := A.rcopy_any HO.out (by omega) HIT.out
  clear hsm
  go_enter Try.func3, Try.ntmps3
  go_wp2_with fail
  refine hfew.mono ?_
  rintro e y ⟨rfl, hy⟩
  rw [hy]
  clear hy hfew
  go_wp2_with fail
  refine hcp.mono ?_
  rintro e y1 ⟨⟨lv, rfl, vs, hcx⟩, hb1⟩
  rw [← HOC.out] at hcx
  obtain ⟨ao, co, hlv, hst⟩ := hcx.stay HO.out.fits
  subst hlv
  rw [HOC.out] at hst
  obtain ⟨lx, hlx⟩ : ∃ lx, os.length = lx := ⟨_, rfl⟩
  have hlx2 : lx = lo := by rw [← hlx]; exact HOC.out
  rw [hlx]
  subst hlx2
  have HOW : Hid (AtsV y1 ao lx co os) := A.Stay.ats hst
  have HB1 : Hid (Below w.heap.size w y1) := hb1
  have hsrc := acts_src (HA.out.below hb1)
  clear hcp hcx hst hb1 hlx
  go_wp2_with (first | (at_builtin; refine A.wpList_append_copy rfl _ _ 23 rfl 42 i7 _ 7 64 Try.underlying23 hi7 hz70 hz71 hz72 rfl (by decide) (cs := ts.flatMap H.Ac.cs) (a := aa) (l := l) (c := cc) rfl rfl HNIL.out hsrc.1 hsrc.2.1 hsrc.2.2 (by omega) (by omega) ?_) | fail)
  intro ma mc y2 ho2 hb2
  have HB2 : Hid (Below w.heap.size w y2) := HB1.out.trans (hb2.mono HB1.out.size)
  have HOW2 : Hid (AtsV y2 ao lx co os) := HOW.out.below hb2
  have HAW2 : Hid (ActsV y2 ma l mc ts) := acts_own ho2 HTC.out
  have hord := Order_any HOW2.out HAW2.out hl12 HARG.out
  clear hsrc ho2 hb2
  go_wp2_with fail
  refine hord.mono ?_
  rintro e y3 ⟨r, v, ord, rfl, hrow, hb3, hyes, hno⟩
  obtain ⟨av, cv, hv⟩ := A.own_form hrow
  subst hv
  have HROW : Hid (y3.ownsRow y2.heap.size 3 1 (.slice av ord.length cv) ord.length (ord.map nV)) := hrow
  have HB3 : Hid (Below w.heap.size w y3) := HB2.out.trans (hb3.mono HB2.out.size)
  have HB23 : Hid (Below y2.heap.size y2 y3) := hb3
  have HYES : Hid (r = true → mayAll os = true ∧ H.mayH ts = true ∧ (H.Pf ts).Ok 0 os ord) := hyes
  have HNO : Hid (r = false → ord = [] ∧ (mayAll os = true → H.mayH ts = true → (H.Pf ts).Bad 0 os)) := hno
  obtain ⟨no, hno2⟩ : ∃ no, ord.length = no := ⟨_, rfl⟩
  have HNL : Hid (ord.length = no) := hno2
  rw [hno2]
  have hmy := r13May_any (HA.out.below HB3.out)
  have HCK : Hid (∀ W, Below y3.heap.size y3 W → Calls Try.prog 15 #[.slice ma l mc] W fun e w' => e = .returned (.int .i64 (if H.mayH ts = true then 0 else 1)) ∧ Below W.heap.size W w') := fun W hW => check_any ((HAW2.out.below HB23.out).below hW)
  obtain ⟨mh, hmh⟩ : ∃ mh, H.mayH ts = mh := ⟨_, rfl⟩
  have HMH : Hid (H.mayH ts = mh) := hmh
  rw [hmh] at hmy HCK
  clear hord hrow hb3 hyes hno hno2 hmh
  go_wp2_with fail
  refine hmy.mono ?_
  rintro e y4 ⟨rfl, hb4⟩
  have HB34 : Hid (Below y3.heap.size y3 y4) := hb4
  have HB4 : Hid (Below w.heap.size w y4) := HB3.out.trans (hb4.mono HB3.out.size)
  have HB24 : Hid (Below y2.heap.size y2 y4) := HB23.out.trans (hb4.mono HB23.out.size)
  have hs1 := A.same_any (HOW2.out.below HB24.out) (HO.out.below HB4.out) true (by simp)
  clear hmy hb4
  have key : ∀ (want : Int), want = (if mh = true then 0 else 1) → True := fun _ _ => trivial
  cases mh with
  | false =>
    have HCK : Hid (∀ W, Below y3.heap.size y3 W → Calls Try.prog 15 #[.slice ma l mc] W fun e w' => e = .returned (.int .i64 1) ∧ Below W.heap.size W w') := HCK
    have hr : r = false := by
      cases r with
      | false => rfl
      | true => have := (HYES.out rfl).2.1; rw [HMH.out] at this; cases this
    subst hr
    go_wp2_with fail
    refine hs1.mono ?_
    rintro e y5 ⟨rfl, hb5⟩
    have HB35 : Hid (Below y3.heap.size y3 y5) := HB34.out.trans (hb5.mono HB34.out.size)
    have HB5 : Hid (Below w.heap.size w y5) := HB4.out.trans (hb5.mono HB4.out.size)
    have HB25 : Hid (Below y2.heap.size y2 y5) := HB24.out.trans (hb5.mono HB24.out.size)
    have hs2 := sameC_any (HAW2.out.below HB25.out) (HA.out.below HB5.out)
    clear hs1 hb5
    go_wp2_with fail
    refine hs2.mono ?_
    rintro e y6 ⟨rfl, hb6⟩
    have HB36 : Hid (Below y3.heap.size y3 y6) := HB35.out.trans (hb6.mono HB35.out.size)
    have HB6 : Hid (Below w.heap.size w y6) := HB5.out.trans (hb6.mono HB5.out.size)
    have hck := HCK.out y6 HB36.out
    clear hs2 hb6
    go_wp2_with fail
    refine hck.mono ?_
    rintro e y7 ⟨rfl, hb7⟩
    have HB7 : Hid (Below w.heap.size w y7) := HB6.out.trans (hb7.mono HB6.out.size)
    have hex := rExists_any (rOrder_any (HO.out.below HB7.out) (by omega) (HA.out.below HB7.out) hl12 HARG.out)
    have hn0 : no = 0 := by rw [← HNL.out, (HNO.out (by first | rfl | trivial)).1]; rfl
    subst hn0
    clear hck hb7
    go_wp2_with fail
    refine hex.mono ?_
    rintro e y8 ⟨b, rfl, hb8, hx8⟩
    have hbf : b = false := by
      cases b with
      | false => rfl
      | true => have := (hx8 rfl).2.1; rw [HMH.out] at this; cases this
    subst hbf
    have HB8 : Hid (Below w.heap.size w y8) := HB7.out.trans (hb8.mono HB7.out.size)
    clear hex hb8 hx8
    go_wp2_with fail
    refine (HL.out _).mono ?_
    rintro e y9 ⟨rfl, hb9⟩
    have HB9 : Hid (Below w.heap.size w y9) := HB8.out.trans (hb9.mono HB8.out.size)
    clear hb9
    go_wp2_with fail
    go_ret
    exact ⟨rfl, HB9.out⟩
  | true =>
    have HCK : Hid (∀ W, Below y3.heap.size y3 W → Calls Try.prog 15 #[.slice ma l mc] W fun e w' => e = .returned (.int .i64 0) ∧ Below W.heap.size W w') := HCK
    go_wp2_with fail
    refine hs1.mono ?_
    rintro e y5 ⟨rfl, hb5⟩
    have HB35 : Hid (Below y3.heap.size y3 y5) := HB34.out.trans (hb5.mono HB34.out.size)
    have HB5 : Hid (Below w.heap.size w y5) := HB4.out.trans (hb5.mono HB4.out.size)
    have HB25 : Hid (Below y2.heap.size y2 y5) := HB24.out.trans (hb5.mono HB24.out.size)
    have hs2 := sameC_any (HAW2.out.below HB25.out) (HA.out.below HB5.out)
    clear hs1 hb5
    go_wp2_with fail
    refine hs2.mono ?_
    rintro e y6 ⟨rfl, hb6⟩
    have HB36 : Hid (Below y3.heap.size y3 y6) := HB35.out.trans (hb6.mono HB35.out.size)
    have HB6 : Hid (Below w.heap.size w y6) := HB5.out.trans (hb6.mono HB5.out.size)
    have hck := HCK.out y6 HB36.out
    clear hs2 hb6
    go_wp2_with fail
    refine hck.mono ?_
    rintro e y7 ⟨rfl, hb7⟩
    have HB37 : Hid (Below y3.heap.size y3 y7) := HB36.out.trans (hb7.mono HB36.out.size)
    have HB7 : Hid (Below w.heap.size w y7) := HB6.out.trans (hb7.mono HB6.out.size)
    clear hck hb7
    cases r with
    | false =>
      have hex := rExists_any (rOrder_any (HO.out.below HB7.out) (by omega) (HA.out.below HB7.out) hl12 HARG.out)
      have hn0 : no = 0 := by rw [← HNL.out, (HNO.out (by first | rfl | trivial)).1]; rfl
      subst hn0
      go_wp2_with fail
      refine hex.mono ?_
      rintro e y8 ⟨b, rfl, hb8, hx8⟩
      have hbf : b = false := by
        cases b with
        | false => rfl
        | true =>
          obtain ⟨h1, h2, o, h3⟩ := hx8 rfl
          exact absurd h3 ((HNO.out (by first | rfl | trivial)).2 h1 h2 o)
      subst hbf
      have HB8 : Hid (Below w.heap.size w y8) := HB7.out.trans (hb8.mono HB7.out.size)
      clear hex hb8 hx8
      go_wp2_with fail
      refine (HL.out _).mono ?_
      rintro e y9 ⟨rfl, hb9⟩
      have HB9 : Hid (Below w.heap.size w y9) := HB8.out.trans (hb9.mono HB8.out.size)
      clear hb9
      go_wp2_with fail
      go_ret
      exact ⟨rfl, HB9.out⟩
    | true =>
      obtain ⟨hm, hh, hok⟩ := HYES.out rfl
      have hnv : NumsV y3 av no cv (ord.map Int.ofNat) := numsV_of (by rw [← HNL.out]; exact HROW.out) HNL.out (fun x hx => by have := ok_lt ord 0 os hok x hx; have h2 : (H.Pf ts).n = l := HTC.out; omega)
      obtain ⟨s, hs⟩ := H.ok_after hok
      have haf := r13After_any (rafter_any (HO.out.below HB7.out) (by omega) (HA.out.below HB7.out) (hnv.below HB37.out) HARG.out)
      rw [show H.aftD os ts (ord.map Int.ofNat) = some s by unfold H.aftD; rw [if_pos ⟨hm, hh⟩, hs]] at haf
      clear hm hh hok hnv hs
      go_wp2_with fail
      refine haf.mono ?_
      rintro e y8 ⟨hb8, a8, c8, he8, hs8⟩
      subst he8
      have HB8 : Hid (Below w.heap.size w y8) := HB7.out.trans (hb8.mono HB7.out.size)
      clear haf hb8 hs8
      go_wp2_with fail
      refine (HL.out _).mono ?_
      rintro e y9 ⟨rfl, hb9⟩
      have HB9 : Hid (Below w.heap.size w y9) := HB8.out.trans (hb9.mono HB8.out.size)
      clear hb9
      go_wp2_with fail
      go_ret
      exact ⟨rfl, HB9.out⟩
end Go.Proofs.Ytafdjmccgijmnaa

/- Proved: HistOrders answers true for all objects and every history (no condition): an order that is found is one, and where none is found there is none; what was handed in is as it was. -/
namespace Go.Proofs.Ytafdjmccgijmnaa.histOrders
open Go.ChangeShapes Go.WideShapes Go.ChangeAt Go.RowKit
open Go.ChangeMaps (open_string)
open A
set_option linter.unusedVariables false

theorem own : ownKnob Try.prog.godebug = none := by kernel_rfl
theorem laidO : laidOutB Try.prog = true := by kernel_rfl

/-! ### The row -/
set_option maxRecDepth 100000 in
theorem lifted (os : Os) (started : os.Started) (H : Type) (enc : TypeId × Value → H) :
    ReturnsInHanded {} Try.checked os 3 .any (Rows.histOrdersSpec.pre6 enc Try.prog Try.f3 Rows.histOrdersRow.domain false) (Rows.histOrdersSpec.post enc Try.prog Try.f3 false true false false) := by
  refine returnsInHanded_of_change_sized (C := Try.checked) own started (by kernel_rfl) Try.func3
    (ChangeSpec.witness6 (enc := enc) (C := Try.checked) false ⟨#[], #[.slice none 0 0, .slice none 0 0], []⟩ 8 (by kernel_rfl) (by kernel_rfl) (by kernel_rfl) (by kernel_rfl)) ?_
  intro W base args ds gs before hval0 hW hcnd hsz0 _
  have hval : ∀ (j : Nat) t v, Try.f3.params[j]? = some t → args[j]? = some v → Value.okWide Try.prog W .any base t v := hval0
  have hsz : (DataW.weightsEach Try.prog (Try.f3.params.toList ++ Rows.histOrdersSpec.plain.varTypes Try.prog) (ds ++ gs)).all (· ≤ reachBytes) = true := hsz0
  have hW' := hW
  obtain ⟨p, q, hA0, hV, rfl, hfz, hnd⟩ := hW
  have hA : DataW.TrodAll enc Try.prog W 0 (fun _ => true) true Try.f3.params.toList args.toList ds p := hA0
  have hlt := hA.lt
  rw [Try.params3] at hA hval hsz
  obtain ⟨v0, vs0, d0, ds0, p0, q0, hargs, rfl, rfl, h0, r0⟩ := trodAll_cons hA
  obtain ⟨v1, vs1, d1, ds1, p1, q1, rfl, rfl, rfl, h1, r1⟩ := trodAll_cons r0
  obtain ⟨rfl, rfl, rfl⟩ := trodAll_nil r1
  obtain rfl : args = #[v0, v1] := by cases args; simp_all
  obtain ⟨rfl, rfl⟩ := trodVars_none hV
  obtain ⟨x0, y0, t0, rfl⟩ := okWide_slice Try.underlying22 (hval 0 22 v0 rfl rfl)
  have hh0 := h0
  obtain ⟨fuel0, g0⟩ := hh0
  obtain ⟨a0, l0, c0, zs0, e0, V0⟩ := open_A (v := .slice x0 y0 t0) (fun _ => rfl) g0
  cases e0
  obtain ⟨x1, y1, t1, rfl⟩ := okWide_slice Try.underlying23 (hval 1 23 v1 rfl rfl)
  have hh1 := h1
  obtain ⟨fuel1, g1⟩ := hh1
  obtain ⟨a1, l1, c1, zs1, e1, V1, F1, N1⟩ := open_C (v := .slice x1 y1 t1) (fun _ => rfl) g1
  cases e1
  have hit : ∀ x ∈ zs0, x.items.length * 8 ≤ 140737488355328 := fun x hx => by
    have h1 := sized_As V0 g0 (R := reachBytes) (fun n hn => by
      have h2 := List.all_eq_true.1 hsz n (DataW.weights_mem_each (j := 0) rfl rfl n hn)
      simpa using h2) x hx
    have h3 : reachBytes = 140737488351232 := rfl
    omega
  clear hA0 hval0
  simp only [List.append_nil] at hW'
  refine (ordersL_any V0 hit V1 F1 N1).mono fun e W' ⟨he, hg⟩ => ?_
  subst he
  exact ⟨_, rfl, _, _, _, [], _, [], hW', (trodAll_cons_mk (shut_bool Try.underlying4 _) trodAll_mk0), (trodAll_cons_mk (Below.trod laidO (by kernel_rfl) (of_decide_eq_true (by kernel_rfl)) h0 hg (fun x hx => hlt x (by simp [hx]))) (trodAll_cons_mk (Below.trod laidO (by kernel_rfl) (of_decide_eq_true (by kernel_rfl)) h1 hg (fun x hx => hlt x (by simp [hx]))) trodAll_mk0)), rfl, hg.frame _, fun h => by cases h⟩

theorem over : Rows.histOrdersRow.holds Try.pinned (OpenSpec.ofChange Rows.histOrdersSpec) :=
  OpenClaim.holds_of_wide 3 Try.f3 rfl rfl rfl rfl rfl rfl rfl ⟨rfl, rfl, rfl, rfl, rfl⟩ rfl rfl rfl rfl rfl (by kernel_rfl) Try.func3 (by kernel_rfl)
    (of_decide_eq_true (by kernel_rfl)) (by unfold Func.isWrapper; first | (rw [if_pos (by decide +kernel)]; kernel_rfl) | (rw [if_neg (by decide +kernel)]; exact ⟨rfl, rfl⟩))
    (fun os started H enc _ => lifted os started H enc)

end Go.Proofs.Ytafdjmccgijmnaa.histOrders
namespace Go.Proofs.Ytafdjmccgijmnaa
/-- The statement. -/
theorem histOrders_holds : Rows.HistOrdersSaid := histOrders.over
#print axioms histOrders_holds
end Go.Proofs.Ytafdjmccgijmnaa
