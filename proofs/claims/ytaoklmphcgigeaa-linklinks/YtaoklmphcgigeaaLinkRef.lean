/- What the document's find, threads and names come to. -/
import Derived.Test.YtaoklmphcgigeaaLinkObjRow
namespace Go.Proofs.Ytaoklmphcgigeaa
open Go.RowKit Go.Lib
set_option linter.unusedVariables false
set_option linter.unusedSimpArgs false

theorem look_drop {ss : List Sym} {nm : ByteArray} {k : Nat} (hk : k < ss.length) : L.look (ss.drop k) nm = if (ss.getD k noSym).name = nm then some (ss.getD k noSym) else L.look (ss.drop (k + 1)) nm := by
  have hg : ss.getD k noSym = ss[k] := by simp [List.getD, hk]
  rw [List.drop_eq_getElem_cons hk, hg]
  unfold L.look
  rw [List.find?_cons]
  by_cases h : ss[k].name = nm
  · simp [h]
  · simp [h]

set_option maxRecDepth 100000 in
set_option maxHeartbeats 4000000 in
theorem rfind_any {w : World} {a : Option Addr} {l c : Nat} {ss : List Sym} (h : SymsV w a l c ss) (hl : l ≤ 1048576) (nm : ByteArray) :
    Calls Try.prog 29 #[.slice a l c, .string nm] w fun e w' => e = .returned (.tuple #[.agg #[.string ((L.look ss nm).getD noSym).name, .int .i64 ((L.look ss nm).getD noSym).kind, .int .i64 ((L.look ss nm).getD noSym).pos], .bool (L.look ss nm).isSome]) ∧ Below w.heap.size w w' := by
  have HV : Hid _ := h
  have hcnt := h.count
  clear h
  obtain ⟨X1, hX1⟩ : ∃ X1, w.alloc (.cells #[.string { data := #[] }, .int .i64 0, .int .i64 0] 36) = X1 := ⟨_, rfl⟩
  have b1 : Below w.heap.size w X1 := by subst hX1; exact bl_one _ _
  have HR : Hid (∀ y : World, Below X1.heap.size X1 y → (y.cell? ⟨w.heap.size, 0, none⟩ = some (.string { data := #[] }) ∧ y.cell? ⟨w.heap.size, 1, none⟩ = some (.int .i64 0) ∧ y.cell? ⟨w.heap.size, 2, none⟩ = some (.int .i64 0)) ∧ (∀ o, y.frozen? ⟨w.heap.size, o, none⟩ = false)) := fun y hb => by
    refine ⟨⟨cell_thru hb ?_, cell_thru hb ?_, cell_thru hb ?_⟩, fun o => (hb.frozen (p := ⟨w.heap.size, o, none⟩) (by show w.heap.size < _; subst hX1; simp)).trans ?_⟩
    · subst hX1; exact cell_last rfl rfl
    · subst hX1; exact cell_last rfl rfl
    · subst hX1; exact cell_last rfl rfl
    · subst hX1; exact World.frozen?_alloc_at _ _ _ _ rfl
  go_enter Try.func29, Try.ntmps29
  go_wp2_with fail
  clear hX1
  go_loopg [6] l (fun r iv wq => ∃ (k : Nat), iv = .int .i64 k ∧ k ≤ l ∧ l - k ≤ r ∧ Hid (L.look ss nm = L.look (ss.drop k) nm) ∧ Hid (Below X1.heap.size X1 wq))
  case atStart => exact ⟨0, rfl, Nat.zero_le _, by omega, (rfl : L.look ss nm = L.look (ss.drop 0) nm), Below.refl _ _⟩
  case round =>
    obtain ⟨k, rfl, hk, hr, HA, HB⟩ := hrel
    have hbw : Below w.heap.size w wr := b1.trans (HB.out.mono b1.size)
    have t0 := (HR.out wr HB.out).1.1
    have t1 := (HR.out wr HB.out).1.2.1
    have t2 := (HR.out wr HB.out).1.2.2
    have z0 := (HR.out wr HB.out).2 0
    have z1 := (HR.out wr HB.out).2 1
    have z2 := (HR.out wr HB.out).2 2
    by_cases hlt : k < l
    · rcases HV.out.cells with h0 | ⟨b, off, hA, hc⟩
      · omega
      obtain ⟨n0, n1, n2⟩ := hc k hlt
      have n0 := cell_thru hbw n0
      have n1 := cell_thru hbw n1
      have n2 := cell_thru hbw n2
      have HD : Hid _ := look_drop (ss := ss) (nm := nm) (k := k) (by omega)
      obtain ⟨y, hy⟩ : ∃ y, ss.getD k noSym = y := ⟨_, rfl⟩
      rw [hy] at n0 n1 n2 HD
      obtain ⟨yn, yk, yp⟩ := y
      simp only at n0 n1 n2
      subst hA
      have hin : 0 ≤ (k : Int) := by omega
      have hii : (k : Int) < l := by omega
      clear hc hy
      by_cases he : yn = nm
      · subst he
        have HE : Hid (L.look ss yn = some ⟨yn, yk, yp⟩) := by show _ = _; rw [HA.out, HD.out]; simp
        clear HA HD
        go_wp2
        refine bodyPost_ret (v := .tuple #[.agg #[.string yn, .int .i64 yk, .int .i64 yp], .bool true]) (by simp [results, Try.results29, go_sem, t0, t1, t2]) rfl ?_
        refine ⟨by rw [HE.out]; rfl, ?_⟩
        exact ((hbw.setCell (Nat.le_refl _) _).setCell (Nat.le_refl _) _).setCell (Nat.le_refl _) _
      · have HE : Hid (L.look ss nm = L.look (ss.drop (k + 1)) nm) := by show _ = _; rw [HA.out, HD.out]; simp [he]
        have hne := toList_ne he
        clear HA HD
        go_wp2_with fail
        go_roundg (l - (k + 1))
        case measure => omega
        case rel => exact ⟨k + 1, by go_num, by omega, Nat.le_refl _, HE.out, HB.out⟩
    · obtain rfl : k = l := by omega
      have hii : ¬ (k : Int) < k := by omega
      have HE : Hid (L.look ss nm = none) := by
        show _ = _
        rw [HA.out, show ss.drop k = [] from by rw [← hcnt]; simp]
        rfl
      clear HA
      go_wp2
      refine bodyPost_ret (v := .tuple #[.agg #[.string { data := #[] }, .int .i64 0, .int .i64 0], .bool false]) (by simp [results, Try.results29, go_sem, t0, t1, t2]) rfl ?_
      refine ⟨by rw [HE.out]; rfl, ?_⟩
      exact ((hbw.setCell (Nat.le_refl _) _).setCell (Nat.le_refl _) _).setCell (Nat.le_refl _) _

theorem thr_take {ss : List Sym} {k : Nat} (hk : k < ss.length) : L.thr (ss.take (k + 1)) = L.thr (ss.take k) + if (ss.getD k noSym).kind = 3 then 1 else 0 := by
  have hg : ss.getD k noSym = ss[k] := by simp [List.getD, hk]
  unfold L.thr
  rw [List.take_succ_eq_append_getElem hk, List.filter_append, List.length_append, hg]
  by_cases h : ss[k].kind = 3
  · simp [h]
  · simp [h]

set_option maxRecDepth 100000 in
set_option maxHeartbeats 4000000 in
theorem rthreads_any {w : World} {a : Option Addr} {l c : Nat} {ss : List Sym} (h : SymsV w a l c ss) (hl : l ≤ 1048576) :
    Calls Try.prog 28 #[.slice a l c] w fun e w' => e = .returned (.int .i64 (L.thr ss)) ∧ Below w.heap.size w w' := by
  have HV : Hid _ := h
  have hcnt := h.count
  clear h
  go_enter Try.func28, Try.ntmps28
  go_wp2_with fail
  go_loopg [3, 4] l (fun r nv iv wq => ∃ (k : Nat), iv = .int .i64 k ∧ nv = .int .i64 (L.thr (ss.take k)) ∧ k ≤ l ∧ l - k ≤ r ∧ Hid (Below w.heap.size w wq))
  case atStart => exact ⟨0, rfl, rfl, Nat.zero_le _, by omega, Below.refl _ _⟩
  case round =>
    obtain ⟨k, rfl, rfl, hk, hr, HB⟩ := hrel
    have hle : L.thr (ss.take k) ≤ k := by
      have := thr_le (ss.take k)
      rw [List.length_take] at this
      omega
    by_cases hlt : k < l
    · rcases HV.out.cells with h0 | ⟨b, off, hA, hc⟩
      · omega
      obtain ⟨n0, n1, n2⟩ := hc k hlt
      have n1 := cell_thru HB.out n1
      have HD : Hid _ := thr_take (ss := ss) (k := k) (by omega)
      obtain ⟨ky, hky⟩ : ∃ ky, (ss.getD k noSym).kind = ky := ⟨_, rfl⟩
      rw [hky] at n1 HD
      obtain ⟨tk, htk⟩ : ∃ tk, L.thr (ss.take k) = tk := ⟨_, rfl⟩
      rw [htk] at HD hle ⊢
      subst hA
      have hin : 0 ≤ (k : Int) := by omega
      have hii : (k : Int) < l := by omega
      clear hc n0 n2 htk hky
      by_cases h3 : ky = 3
      · rw [h3] at n1
        have HE : Hid (L.thr (ss.take (k + 1)) = tk + 1) := by show _ = _; rw [HD.out, if_pos h3]
        clear HD
        go_wp2_with fail
        go_roundg (l - (k + 1))
        case measure => omega
        case rel => exact ⟨k + 1, by go_num, by rw [HE.out]; go_num, by omega, Nat.le_refl _, HB.out⟩
      · have HE : Hid (L.thr (ss.take (k + 1)) = tk) := by show _ = _; rw [HD.out, if_neg h3]; rfl
        have h3b : (ky == 3) = false := by simpa using h3
        clear HD
        go_wp2_with fail
        go_roundg (l - (k + 1))
        case measure => omega
        case rel => exact ⟨k + 1, by go_num, by rw [HE.out], by omega, Nat.le_refl _, HB.out⟩
    · obtain rfl : k = l := by omega
      have hii : ¬ (k : Int) < k := by omega
      rw [List.take_of_length_le (by omega)]
      go_wp2
      go_ret
      exact ⟨rfl, HB.out⟩
end Go.Proofs.Ytaoklmphcgigeaa
