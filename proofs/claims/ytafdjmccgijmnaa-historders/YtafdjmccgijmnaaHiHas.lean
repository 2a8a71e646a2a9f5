/- Whether each act stands in an order as often as it must. -/
import Derived.Test.YtafdjmccgijmnaaHiEarly
namespace Go.Proofs.Ytafdjmccgijmnaa
open Go.RowKit
set_option linter.unusedVariables false
set_option linter.unusedSimpArgs false
namespace H
/-- Which acts the first so many of an order are; none: one is no act's number, or stands there twice. -/
def took (n : Nat) (ks : List Int) : Nat → Option Nat
  | 0 => some 0
  | k + 1 => match took n ks k with
    | none => none
    | some d => if ks.getD k 0 < 0 ∨ (n : Int) ≤ ks.getD k 0 ∨ d.testBit (ks.getD k 0).toNat = true then none else some (wth d (ks.getD k 0).toNat)
theorem took_none {n : Nat} {ks : List Int} {k : Nat} (h : took n ks k = none) : ∀ {j : Nat}, k ≤ j → took n ks j = none
  | 0, hj => by obtain rfl : k = 0 := by omega
                exact h
  | j + 1, hj => by
    by_cases e : k = j + 1
    · rw [← e]; exact h
    · rw [took, took_none h (by omega : k ≤ j)]
theorem took_lt {n : Nat} (hn : n ≤ 60) {ks : List Int} : ∀ (k d : Nat), took n ks k = some d → d < 2 ^ 60
  | 0, d, h => by cases h; exact Nat.two_pow_pos 60
  | k + 1, d, h => by
    rw [took] at h
    cases hk : took n ks k with
    | none => rw [hk] at h; cases h
    | some d' =>
      rw [hk] at h
      simp only at h
      split at h
      · cases h
      · next hc =>
        cases h
        unfold wth
        exact Nat.or_lt_two_pow (took_lt hn k d' hk) (Nat.pow_lt_pow_right (by decide) (by omega))
def hasAllB (ts : List Ac) (ks : List Int) : Bool := match took ts.length ks ks.length with
  | none => false
  | some d => sub (backs ts ts.length) d
end H
structure NumsV (w : World) (a : Option Addr) (l c : Nat) (ks : List Int) : Prop where
  count : ks.length = l
  room : l ≤ c ∧ c ≤ maxLen
  fit : ∀ x ∈ ks, -9223372036854775808 ≤ x ∧ x ≤ 9223372036854775807
  cells : l = 0 ∨ ∃ b off, a = some ⟨b, off, none⟩ ∧ ∀ i, i < l → w.cell? ⟨b, off + i, none⟩ = some (.int .i64 (ks.getD i 0))
theorem NumsV.below {w y : World} {a : Option Addr} {l c : Nat} {ks : List Int} (h : NumsV w a l c ks) (hb : Below w.heap.size w y) : NumsV y a l c ks :=
  ⟨h.count, h.room, h.fit, h.cells.imp id fun ⟨b, off, e, hc⟩ => ⟨b, off, e, fun i hi => hcell_thru hb (hc i hi)⟩⟩
theorem NumsV.at {w : World} {a : Option Addr} {l c : Nat} {ks : List Int} (h : NumsV w a l c ks) {i : Nat} (hi : i < l) : ∃ b off, a = some ⟨b, off, none⟩ ∧ w.cell? ⟨b, off + i, none⟩ = some (.int .i64 (ks.getD i 0)) := by
  rcases h.cells with h0 | ⟨b, off, e, hc⟩
  · omega
  · exact ⟨b, off, e, hc i hi⟩
set_option maxRecDepth 100000 in
set_option maxHeartbeats 8000000 in
theorem ohasAll_any {w : World} {a a2 : Option Addr} {l c l2 c2 : Nat} {ts : List H.Ac} {ks : List Int} (h : ActsV w a l c ts) (hl : l ≤ 60) (hn : NumsV w a2 l2 c2 ks) : Calls Try.prog 33 #[.slice a l c, .slice a2 l2 c2] w fun e w' => e = .returned (.bool (H.hasAllB ts ks)) ∧ Below w.heap.size w w' := by
  have HV : Hid _ := h
  have HN : Hid _ := hn
  have HC : Hid (ts.length = l) := h.count
  have HC2 : Hid (ks.length = l2) := hn.count
  have hm : l2 ≤ 9223372036854775807 := by have := hn.room; unfold maxLen at this; omega
  have HNO : Hid (∀ k, k ≤ l2 → H.took l ks k = none → H.hasAllB ts ks = false) := fun k hk e => by
    unfold H.hasAllB
    rw [HC.out, HC2.out, H.took_none e hk]
  have HYES : Hid (∀ d, H.took l ks l2 = some d → H.hasAllB ts ks = H.sub (H.backs ts l) d) := fun d e => by
    unfold H.hasAllB
    rw [HC.out, HC2.out, e]
  clear h hn
  go_enter Try.func33, Try.ntmps33
  go_wp2_with fail
  go_loopg [5, 7, 10] l2 (fun r sv z7 iv wq => ∃ (k d : Nat), r = l2 - k ∧ iv = .int .i64 k ∧ k ≤ l2 ∧ sv = .int .u64 d ∧ wq = w ∧ Hid (H.took l ks k = some d))
  case atStart => exact ⟨0, 0, rfl, rfl, Nat.zero_le _, rfl, rfl, rfl⟩
  case round =>
    obtain ⟨k, d, rfl, rfl, hk, rfl, rfl, HTK⟩ := hrel
    by_cases hlt : k < l2
    · have hii : (k : Int) < l2 := by omega
      have hin : 0 ≤ (k : Int) := by omega
      obtain ⟨b, off, rfl, cx⟩ := HN.out.at hlt
      have hd60 := H.took_lt hl k d HTK.out
      have HNX : Hid (H.took l ks (k + 1) = if ks.getD k 0 < 0 ∨ (l : Int) ≤ ks.getD k 0 ∨ d.testBit (ks.getD k 0).toNat = true then none else some (H.wth d (ks.getD k 0).toNat)) := by
        show _ = _
        rw [H.took, HTK.out]
      obtain ⟨x, hx⟩ : ∃ x, ks.getD k 0 = x := ⟨_, rfl⟩
      rw [hx] at cx HNX
      clear hx
      by_cases h1 : x < 0
      · have HR : Hid (H.hasAllB ts ks = false) := HNO.out (k + 1) (by omega) (by rw [HNX.out, if_pos (.inl h1)])
        go_wp2_with fail
        go_ret
        exact ⟨by rw [HR.out]; rfl, Below.refl _ _⟩
      · by_cases h2 : (l : Int) ≤ x
        · have HR : Hid (H.hasAllB ts ks = false) := HNO.out (k + 1) (by omega) (by rw [HNX.out, if_pos (.inr (.inl h2))])
          go_wp2_with fail
          go_ret
          exact ⟨by rw [HR.out]; rfl, Below.refl _ _⟩
        · obtain ⟨q, rfl⟩ : ∃ q : Nat, x = q := ⟨x.toNat, by omega⟩
          have hhas := has_any d q (by omega) hd60 wr
          have hwith := with_any d q (by omega) hd60 wr
          rw [Int.toNat_natCast] at HNX
          cases h3 : d.testBit q with
          | true =>
            rw [h3] at hhas
            have HR : Hid (H.hasAllB ts ks = false) := HNO.out (k + 1) (by omega) (by rw [HNX.out, if_pos (.inr (.inr h3))])
            clear h3 hwith
            go_wp2_with fail
            refine hhas.mono ?_
            rintro e y ⟨rfl, hy⟩
            rw [hy]
            clear hy hhas
            go_wp2_with fail
            go_ret
            exact ⟨by rw [HR.out]; rfl, Below.refl _ _⟩
          | false =>
            rw [h3] at hhas
            have HT2 : Hid (H.took l ks (k + 1) = some (H.wth d q)) := by
              show _ = _
              rw [HNX.out, if_neg]
              rintro (e | e | e)
              · exact h1 e
              · exact h2 e
              · rw [h3] at e; cases e
            clear h3
            go_wp2_with fail
            refine hhas.mono ?_
            rintro e y ⟨rfl, hy⟩
            rw [hy]
            clear hy hhas
            go_wp2_with fail
            refine hwith.mono ?_
            rintro e y ⟨rfl, hy⟩
            rw [hy]
            clear hy hwith
            go_wp2_with fail
            go_roundg (l2 - (k + 1))
            case measure => omega
            case rel => exact ⟨k + 1, _, rfl, by go_num, by omega, rfl, rfl, HT2⟩
    · obtain rfl : k = l2 := by omega
      have hii : ¬ (k : Int) < k := by omega
      have HR := HYES.out d HTK.out
      have hd60 := H.took_lt hl k d HTK.out
      have hb60 := H.backs_lt ts l hl
      have HRR : Hid (H.hasAllB ts ks = H.sub (H.backs ts l) d) := HR
      have hbk := backOf_any HV.out hl
      obtain ⟨bk, hbk2⟩ : ∃ x, H.backs ts l = x := ⟨_, rfl⟩
      rw [hbk2] at hbk HRR hb60
      have HSU : Hid (∀ W, Calls Try.prog 55 #[.int .u64 d, .int .u64 bk] W fun e w' => e = .returned (.bool (H.sub bk d)) ∧ w' = W) := fun W => hasAll_any d bk (by omega) (by omega) W
      clear HR hbk2 hd60 hb60
      go_wp2_with fail
      refine hbk.mono ?_
      rintro e y ⟨rfl, hy⟩
      have HY : Hid _ := hy
      clear hy hbk
      go_wp2_with fail
      refine (HSU.out _).mono ?_
      rintro e y2 ⟨rfl, hy2⟩
      rw [hy2]
      clear hy2
      go_wp2_with fail
      go_ret
      exact ⟨by rw [HRR.out]; rfl, HY.out⟩
end Go.Proofs.Ytafdjmccgijmnaa
