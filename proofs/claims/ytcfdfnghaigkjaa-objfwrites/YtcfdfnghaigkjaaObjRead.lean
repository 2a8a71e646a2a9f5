/- What the reader's calls come to. -/
import Derived.Test.YtcfdfnghaigkjaaObjPiece
import Derived.Test.YtcfdfnghaigkjaaObjPut
namespace Go.Proofs.Ytcfdfnghaigkjaa
open Go.RowKit Go.Maps Go.Lib
set_option linter.unusedVariables false

/-- Readers: what is read at a place, and the place behind it; or that nothing is. -/
def rdTake (s : ByteArray) (i n : Nat) : Option (ByteArray × Nat) := if i + n ≤ s.size then some (sub s i n, i + n) else none
def rdUp (s : ByteArray) (i n : Nat) : Option (Int × Nat) := match W.takeG 0 0 (W.tail s i) with | some (x, m) => if x ≤ n then some (x, i + m) else none | none => none
def rdLong (s : ByteArray) (i : Nat) : Option (Int × Nat) := match rdTake s i 8 with | some (t, j) => some (W.numV t, j) | none => none
def rdName (s : ByteArray) (i : Nat) : Option (ByteArray × Nat) := match rdUp s i 28 with | some (x, j) => rdTake s j x.toNat | none => none

/-- How a reader's call ends. -/
def Reads {α : Type} (w : World) (br : Nat) (s : ByteArray) (f : Option (α × Nat)) (val : α → Value) (e : Ending) (w' : World) : Prop :=
  ((∃ a j, f = some (a, j) ∧ e = .returned (val a) ∧ RdV w' br s j) ∨ (f = none ∧ Fails e)) ∧ w.grownBy w' (some br)

theorem takeG_nonneg : ∀ (l : List Int) (g : Nat) (x v : Int) (m : Nat), (∀ c ∈ l, 0 ≤ c) → 0 ≤ x → W.takeG g x l = some (v, m) → 0 ≤ v
  | [], g, x, v, m, _, _, h => by simp [W.takeG] at h
  | c :: r, g, x, v, m, hc, hx, h => by
    have hc0 : 0 ≤ c := hc c (by simp)
    have hp : 0 ≤ c % 128 * 128 ^ g := Int.mul_nonneg (Int.emod_nonneg _ (by decide)) (Int.pow_nonneg (by decide))
    by_cases hb : (g = 9 ∧ 1 < c) ∨ (0 < g ∧ c = 0)
    · rw [W.takeG_no g x c r hb] at h; cases h
    · by_cases hl : c < 128
      · rw [W.takeG_last g x c r hb hl] at h
        simp at h
        omega
      · rw [W.takeG_more g x c r hb (by omega)] at h
        exact takeG_nonneg r (g + 1) _ v m (fun y hy => hc y (by simp [hy])) (by omega) h
theorem rdUp_nonneg {s : ByteArray} {i n : Nat} {x : Int} {j : Nat} (h : rdUp s i n = some (x, j)) : 0 ≤ x ∧ x ≤ n := by
  unfold rdUp at h
  split at h
  · next x' m hx =>
    split at h
    · next hle =>
      simp at h
      obtain ⟨rfl, rfl⟩ := h
      exact ⟨takeG_nonneg _ _ _ _ _ (fun c hc => (W.tail_bd s i c hc).1) (by decide) hx, hle⟩
    · cases h
  · cases h
theorem sub_size {s : ByteArray} {i n : Nat} (h : i + n ≤ s.size) : (sub s i n).size = n := by
  unfold sub
  rw [ByteArray.size_extract]
  omega

theorem rtake_any {w : World} {br : Nat} {s : ByteArray} {i : Nat} (h : RdV w br s i) (n : Nat) (hm : n ≤ 1000000000) :
    Calls Try.prog 49 #[.pointer (some ⟨br, 0, none⟩), .int .i64 n] w fun e w' => Reads w br s (rdTake s i n) Value.string e w' := by
  by_cases hn : i + n ≤ s.size
  · refine (rtake_yes h n hn).mono ?_
    rintro e w' ⟨rfl, hr, hg⟩
    exact ⟨.inl ⟨_, _, if_pos hn, rfl, hr⟩, hg⟩
  · refine (rtake_no h n (by omega) hm).mono ?_
    rintro e w' ⟨hf, hg⟩
    exact ⟨.inr ⟨if_neg hn, hf⟩, hg⟩
theorem rup_any {w : World} {br : Nat} {s : ByteArray} {i : Nat} (h : RdV w br s i) (n : Nat) (hm : n ≤ 1000000000) :
    Calls Try.prog 50 #[.pointer (some ⟨br, 0, none⟩), .int .i64 n] w fun e w' => Reads w br s (rdUp s i n) (Value.int .i64) e w' := by
  cases hx : W.takeG 0 0 (W.tail s i) with
  | none =>
    refine (rup_no h n hm hx).mono ?_
    rintro e w' ⟨hf, hg⟩
    exact ⟨.inr ⟨by unfold rdUp; rw [hx], hf⟩, hg⟩
  | some p =>
    obtain ⟨x, m⟩ := p
    by_cases hle : x ≤ n
    · refine (rup_yes h n hm x m hx (takeG_nonneg _ _ _ _ _ (fun c hc => (W.tail_bd s i c hc).1) (by decide) hx) hle).mono ?_
      rintro e w' ⟨rfl, hr, hg⟩
      exact ⟨.inl ⟨x, i + m, by unfold rdUp; rw [hx]; exact if_pos hle, rfl, hr⟩, hg⟩
    · refine (rup_big h n hm x m hx (by omega)).mono ?_
      rintro e w' ⟨hf, hg⟩
      exact ⟨.inr ⟨by unfold rdUp; rw [hx]; exact if_neg hle, hf⟩, hg⟩

theorem grown_trans {w w1 w2 : World} {br : Nat} (h : w.grownBy w1 (some br)) (k : w1.grownBy w2 (some br)) : w.grownBy w2 (some br) :=
  ⟨k.os.trans h.os, k.tape.trans h.tape, k.output.trans h.output, Nat.le_trans h.size k.size, fun j hj hne => (k.block j (Nat.lt_of_lt_of_le hj h.size) hne).trans (h.block j hj hne)⟩
theorem grown_below {w w1 w2 : World} {br : Nat} (h : w.grownBy w1 (some br)) (k : Below w1.heap.size w1 w2) : w.grownBy w2 (some br) :=
  grown_trans h ⟨k.os, k.tape, k.output, k.size, fun j hj _ => k.block j hj⟩

set_option maxRecDepth 100000 in
set_option maxHeartbeats 1000000 in
theorem rlong_any {w : World} {br : Nat} {s : ByteArray} {i : Nat} (h : RdV w br s i) :
    Calls Try.prog 51 #[.pointer (some ⟨br, 0, none⟩)] w fun e w' => Reads w br s (rdLong s i) (Value.int .i64) e w' := by
  have HR : Hid _ := h
  clear h
  go_enter Try.func51, Try.ntmps51
  go_wp2_with fail
  refine (rtake_any HR.out 8 (by decide)).mono ?_
  rintro e w1 ⟨⟨t, j, hf, rfl, hr⟩ | ⟨hf, c, rfl⟩, hg⟩
  · have hE : W.numE t = 0 := by
      unfold rdTake at hf
      split at hf
      · next hle =>
        simp at hf
        obtain ⟨rfl, rfl⟩ := hf
        unfold W.numE
        rw [sub_size hle]
        rfl
      · cases hf
    have HE : Hid _ := hE
    have HF : Hid (rdLong s i = some (W.numV t, j)) := by show _ = _; unfold rdLong; rw [hf]
    have HR1 : Hid _ := hr
    have HG : Hid _ := hg
    clear hE hf hr hg
    go_wp2_with fail
    refine (number_any t _).mono ?_
    rintro e w2 ⟨rfl, rfl⟩
    rw [HE.out]
    go_wp2
    go_ret
    exact ⟨.inl ⟨_, _, HF.out, rfl, HR1.out⟩, HG.out⟩
  · have HF : Hid (rdLong s i = none) := by show _ = _; unfold rdLong; rw [hf]
    clear hf
    go_wp2
    exact ⟨rfl, .inr ⟨HF.out, c, rfl⟩, hg⟩

set_option maxRecDepth 100000 in
set_option maxHeartbeats 1000000 in
theorem rname_any {w : World} {br : Nat} {s : ByteArray} {i : Nat} (h : RdV w br s i) :
    Calls Try.prog 62 #[.pointer (some ⟨br, 0, none⟩)] w fun e w' => Reads w br s (rdName s i) Value.string e w' := by
  have HR : Hid _ := h
  clear h
  go_enter Try.func62, Try.ntmps62
  go_wp2_with fail
  refine (rup_any HR.out 28 (by decide)).mono ?_
  rintro e w1 ⟨⟨x, j, hf, rfl, hr⟩ | ⟨hf, c, rfl⟩, hg⟩
  · obtain ⟨hx0, hx1⟩ := rdUp_nonneg hf
    obtain ⟨n, rfl⟩ : ∃ n : Nat, x = n := ⟨x.toNat, by omega⟩
    have HF : Hid (rdName s i = rdTake s j n) := by show _ = _; unfold rdName; rw [hf]; simp
    have HR1 : Hid _ := hr
    have HG : Hid _ := hg
    clear hf hr hg
    go_wp2_with fail
    refine (rtake_any HR1.out n (by omega)).mono ?_
    rintro e w2 ⟨⟨t, j2, hf2, rfl, hr2⟩ | ⟨hf2, c, rfl⟩, hg2⟩
    · have HF2 : Hid (rdName s i = some (t, j2)) := HF.out.trans hf2
      have HR2 : Hid _ := hr2
      have HG2 : Hid _ := grown_trans HG.out hg2
      clear hf2 hr2 hg2
      go_wp2
      go_ret
      exact ⟨.inl ⟨_, _, HF2.out, rfl, HR2.out⟩, HG2.out⟩
    · have HF2 : Hid (rdName s i = none) := HF.out.trans hf2
      have HG2 : Hid _ := grown_trans HG.out hg2
      clear hf2 hg2
      go_wp2
      exact ⟨rfl, .inr ⟨HF2.out, c, rfl⟩, HG2.out⟩
  · have HF : Hid (rdName s i = none) := by show _ = _; unfold rdName; rw [hf]
    clear hf
    go_wp2
    exact ⟨rfl, .inr ⟨HF.out, c, rfl⟩, hg⟩

end Go.Proofs.Ytcfdfnghaigkjaa
