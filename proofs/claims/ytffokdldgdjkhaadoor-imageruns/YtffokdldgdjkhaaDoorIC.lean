/- What is written is read as it was, and what is read is as it would be written: no program in sight. -/
import Derived.Test.YtffokdldgdjkhaaDoorIB
import Derived.Deep.LoopGhost
import Derived.Recover
import Derived.BigQuiet
import Derived.Test.YtffokdldgdjkhaaDoorInsEncAll
namespace Go.Proofs.YtffokdldgdjkhaaDoor
set_option maxRecDepth 100000
open Go.RowKit Go.Maps Go.Lib
set_option linter.unusedVariables false

theorem tail_drop (s : ByteArray) (i m : Nat) : W.tail s (i + m) = (W.tail s i).drop m := by
  unfold W.tail
  rw [← List.map_drop, List.drop_drop]
theorem tail_step {s : ByteArray} {i : Nat} {e r : List Int} (hi : i ≤ s.size) (h : W.tail s i = e ++ r) : i + e.length ≤ s.size ∧ W.tail s (i + e.length) = r := by
  have h1 := W.tail_length s i
  rw [h, List.length_append] at h1
  exact ⟨by omega, by rw [tail_drop, h]; simp⟩
theorem nums_sub (s : ByteArray) (i n : Nat) : nums (sub s i n) = (W.tail s i).take n := by
  unfold nums W.tail sub
  rw [ByteArray.data_extract, Array.toList_extract, List.drop_zero, List.extract_eq_take_drop, ← List.map_take]
  congr 2
  omega
theorem bytes_nums {a b : ByteArray} (h : nums a = nums b) : a = b := by
  unfold nums W.tail at h
  rw [List.drop_zero, List.drop_zero] at h
  refine bytes_ext ?_
  have hinj : Function.Injective (fun b : UInt8 => (b.toNat : Int)) := fun x y e => by
    have e' : (x.toNat : Int) = (y.toNat : Int) := e
    exact UInt8.toNat_inj.1 (by omega)
  exact (List.map_inj_right (fun x y e => hinj e)).1 h
theorem str_nums (s : ByteArray) : strOfNums (nums s) = s := bytes_nums (nums_of (fun n hn => by have := W.tail_bd s 0 n hn; omega))
theorem nums_bd (s : ByteArray) : ∀ n ∈ nums s, 0 ≤ n ∧ n ≤ 255 := fun n hn => by have := W.tail_bd s 0 n hn; omega

/-- A reader reads nothing but what stands there. -/
def Sound {α : Type} (f : ByteArray → Nat → Option (α × Nat)) (enc : α → List Int) (ok : α → Prop) : Prop :=
  ∀ (s : ByteArray) (i : Nat) (a : α) (j : Nat), i ≤ s.size → f s i = some (a, j) → i ≤ j ∧ j ≤ s.size ∧ W.tail s i = enc a ++ W.tail s j ∧ ok a
/-- A reader reads what stands there. -/
def Compl {α : Type} (f : ByteArray → Nat → Option (α × Nat)) (enc : α → List Int) (ok : α → Prop) : Prop :=
  ∀ (s : ByteArray) (i : Nat) (a : α) (r : List Int), i ≤ s.size → ok a → W.tail s i = enc a ++ r → f s i = some (a, i + (enc a).length)

theorem take_sound (n : Nat) : Sound (fun s i => rdTake s i n) nums (fun a => a.size = n) := by
  intro s i a j hi h
  simp only [rdTake] at h
  split at h
  · next hle =>
    simp at h
    obtain ⟨rfl, rfl⟩ := h
    refine ⟨by omega, hle, ?_, sub_size hle⟩
    rw [nums_sub, tail_drop, List.take_append_drop]
  · cases h
theorem take_compl (n : Nat) : Compl (fun s i => rdTake s i n) nums (fun a => a.size = n) := by
  intro s i a r hi ha h
  have h1 := (tail_step hi h).1
  rw [nums_len, ha] at h1
  simp only [rdTake, if_pos h1, nums_len, ha]
  have : sub s i n = a := bytes_nums (by rw [nums_sub, h, ← ha, ← nums_len a]; simp)
  rw [this]

theorem takeG_inv : ∀ (l : List Int) (g : Nat) (x v : Int) (m : Nat), g ≤ 9 → (∀ c ∈ l, 0 ≤ c ∧ c < 256) → W.takeG g x l = some (v, m) →
    ∃ u, v = x + u * 128 ^ g ∧ g < m ∧ m - g ≤ l.length ∧ l.take (m - g) = W.grps (9 - g) u ∧ 0 ≤ u ∧ (0 < g → 0 < u)
  | [], g, x, v, m, _, _, h => by simp [W.takeG] at h
  | c :: r, g, x, v, m, hg, hc, h => by
    have hc0 := hc c (by simp)
    by_cases hb : (g = 9 ∧ 1 < c) ∨ (0 < g ∧ c = 0)
    · rw [W.takeG_no g x c r hb] at h; cases h
    · by_cases hl : c < 128
      · rw [W.takeG_last g x c r hb hl] at h
        simp at h
        obtain ⟨rfl, rfl⟩ := h
        refine ⟨c, by rw [show c % 128 = c by omega], by omega, by simp, ?_, hc0.1, fun h0 => by omega⟩
        rw [W.grps_last _ _ hl, show g + 1 - g = 1 by omega]
        simp
      · rw [W.takeG_more g x c r hb (by omega)] at h
        obtain ⟨u, hv, hm, hml, ht, hu0, hu1⟩ := takeG_inv r (g + 1) _ v m (by omega) (fun y hy => hc y (by simp [hy])) h
        have hup := hu1 (by omega)
        refine ⟨c % 128 + u * 128, ?_, by omega, by simp; omega, ?_, by omega, fun _ => by omega⟩
        · rw [hv, Int.add_mul, Int.pow_succ, Int.mul_assoc u 128, Int.mul_comm 128 (128 ^ g), Int.add_assoc]
        · obtain ⟨f, hf⟩ : ∃ f, 9 - g = f + 1 := ⟨8 - g, by omega⟩
          rw [hf, W.grps_step f _ (by omega)]
          obtain ⟨q, hq⟩ : ∃ q, m - g = q + 1 := ⟨m - g - 1, by omega⟩
          rw [hq, List.take_succ_cons]
          have e1 : (c % 128 + u * 128) % 128 + 128 = c := by omega
          have e2 : (c % 128 + u * 128) / 128 = u := by omega
          rw [e1, e2, show q = m - (g + 1) by omega, ht, show 9 - (g + 1) = f by omega]
theorem up_sound (n : Nat) : Sound (fun s i => rdUp s i n) W.put (fun x => 0 ≤ x ∧ x ≤ n) := by
  intro s i a j hi h
  have hr := rdUp_nonneg h
  simp only [rdUp] at h
  split at h
  · next x m hx =>
    split at h
    · next hle =>
      simp at h
      obtain ⟨rfl, rfl⟩ := h
      obtain ⟨u, hv, hm, hml, ht, hu0, -⟩ := takeG_inv _ 0 0 x m (by omega) (W.tail_bd s i) hx
      obtain rfl : x = u := by simpa using hv
      have hl := W.tail_length s i
      refine ⟨by omega, by omega, ?_, hr⟩
      rw [tail_drop]
      have : W.put x = (W.tail s i).take m := by simpa [W.put] using ht.symm
      rw [this, List.take_append_drop]
    · cases h
  · cases h
theorem up_compl (n : Nat) (hn : n ≤ 1000000000) : Compl (fun s i => rdUp s i n) W.put (fun x => 0 ≤ x ∧ x ≤ n) := by
  intro s i a r hi ha h
  simp only [rdUp, h, W.takeG_put a r ha.1 (by omega)]
  rw [if_pos ha.2]

theorem bytesOf_num : ∀ (l : List Int) (n : Int), (∀ c ∈ l, 0 ≤ c ∧ c < 256) → n % 256 ^ l.length = W.num l → W.bytesOf n l.length = l
  | [], n, _, _ => by simp [W.bytesOf]
  | c :: r, n, hc, h => by
    have hc0 := hc c (by simp)
    rw [List.length_cons, W.bytesOf_cons]
    simp only [List.length_cons, W.num] at h
    have hb := W.num_bd r (fun y hy => hc y (by simp [hy]))
    have hP : (0 : Int) < 256 ^ r.length := Int.pow_pos (by decide)
    have key : n % 256 = c ∧ n / 256 % 256 ^ r.length = W.num r := by
      have h2 : n % (256 * 256 ^ r.length) = n % 256 + 256 * (n / 256 % 256 ^ r.length) := by
        have h1 := Int.mul_ediv_add_emod (n / 256) (256 ^ r.length)
        have h2 := Int.emod_nonneg (n / 256) (Int.ne_of_gt hP)
        have h3 := Int.emod_lt_of_pos (n / 256) hP
        generalize n / 256 % 256 ^ r.length = t at *
        generalize n / 256 / 256 ^ r.length = q at *
        have h4 : n = (n % 256 + 256 * t) + 256 * 256 ^ r.length * q := by
          rw [Int.mul_assoc]; omega
        conv => lhs; rw [h4]
        rw [Int.add_mul_emod_self_left]
        exact Int.emod_eq_of_lt (by omega) (by omega)
      rw [Int.pow_succ, Int.mul_comm, h2] at h
      omega
    rw [key.1, bytesOf_num r (n / 256) (fun y hy => hc y (by simp [hy])) key.2]
theorem long_sub {t : ByteArray} (h : t.size = 8) : long (W.numV t) = nums t ∧ (Lit.int .i64 (W.numV t)).wf = true := by
  have s8 : W.isSz (8 : Nat) = true := by decide
  have hl : (nums t).length = 8 := by rw [nums_len, h]
  have hb := W.num_bd (nums t) (W.tail_bd t 0)
  rw [hl, show (256 : Int) ^ 8 = 18446744073709551616 by decide] at hb
  have hv : W.numV t = wrap64 (W.num (nums t)) := by
    rw [W.numV, h, if_pos s8]
    rfl
  have hw : (Lit.int .i64 (W.numV t)).wf = true := by
    rw [hv]
    simp [Lit.wf, IntKind.min, IntKind.max, IntKind.signed, IntKind.bits]
    unfold wrap64
    omega
  refine ⟨?_, hw⟩
  have e : W.sx 8 (W.numV t) = W.numV t := by rw [hv]; simp [W.sx]; unfold wrap64; omega
  have s8' : W.isSz 8 = true := by decide
  have e2 : long (W.numV t) = W.bytesOf (W.numV t) 8 := by unfold long; rw [W.bytesV, if_pos s8', if_pos e]; rfl
  rw [e2]
  have := bytesOf_num (nums t) (W.numV t) (W.tail_bd t 0) (by rw [hl, show (256 : Int) ^ 8 = 18446744073709551616 by decide, hv]; unfold wrap64; omega)
  rwa [hl] at this
theorem long_sound : Sound rdLong long (fun n => (Lit.int .i64 n).wf = true) := by
  intro s i a j hi h
  simp only [rdLong] at h
  split at h
  · next t k ht =>
    simp at h
    obtain ⟨rfl, rfl⟩ := h
    obtain ⟨h1, h2, h3, h4⟩ := take_sound 8 s i t k hi ht
    obtain ⟨h5, h6⟩ := long_sub h4
    exact ⟨h1, h2, by rw [h5]; exact h3, h6⟩
  · cases h
theorem long_compl : Compl rdLong long (fun n => (Lit.int .i64 n).wf = true) := by
  intro s i a r hi ha h
  obtain ⟨hl, hb⟩ := long_len ha
  have hn := nums_of hb
  have hs : (strOfNums (long a)).size = 8 := by rw [size_of hb, hl]
  have h1 := take_compl 8 s i (strOfNums (long a)) r hi hs (by rw [hn]; exact h)
  simp only [rdLong]
  rw [show rdTake s i 8 = _ from h1]
  simp only [hn]
  have := (W.num_back a ha).2.2
  rw [show W.numV (strOfNums (long a)) = a from this]

theorem kind_sound : Sound rdKind (fun x => [x]) (fun x => 0 ≤ x ∧ x ≤ 255) := by
  intro s i a j hi h
  simp only [rdKind] at h
  split at h
  · next t k ht =>
    simp at h
    obtain ⟨rfl, rfl⟩ := h
    obtain ⟨h1, h2, h3, h4⟩ := take_sound 1 s i t k hi ht
    have hl : (nums t).length = 1 := by rw [nums_len, h4]
    obtain ⟨y, hy⟩ := List.length_eq_one_iff.1 hl
    have hb := nums_bd t y (by rw [hy]; simp)
    rw [hy] at h3
    refine ⟨h1, h2, ?_, ?_⟩
    · simpa [hy] using h3
    · simpa [hy] using hb
  · cases h
theorem kind_compl : Compl rdKind (fun x => [x]) (fun x => 0 ≤ x ∧ x ≤ 255) := by
  intro s i a r hi ha h
  have hb : ∀ n ∈ [a], 0 ≤ n ∧ n ≤ 255 := by intro n hn; simp at hn; omega
  have hn := nums_of hb
  have hs : (strOfNums [a]).size = 1 := by rw [size_of hb]; rfl
  have h1 := take_compl 1 s i (strOfNums [a]) r hi hs (by rw [hn]; exact h)
  simp only [rdKind]
  rw [show rdTake s i 1 = _ from h1]
  simp [hn]

theorem name_sound : Sound rdName txt (fun a => a.size ≤ 28) := by
  intro s i a j hi h
  simp only [rdName] at h
  split at h
  · next x k hx =>
    obtain ⟨h1, h2, h3, h4⟩ := up_sound 28 s i x k hi hx
    obtain ⟨h5, h6, h7, h8⟩ := take_sound x.toNat s k a j h2 h
    have e : (a.size : Int) = x := by omega
    refine ⟨by omega, h6, ?_, by omega⟩
    rw [h3, h7, txt, e, List.append_assoc]
  · cases h
theorem name_compl : Compl rdName txt (fun a => a.size ≤ 28) := by
  intro s i a r hi ha h
  rw [txt, List.append_assoc] at h
  have h1 := up_compl 28 (by decide) s i a.size _ hi (by omega) h
  obtain ⟨h2, h3⟩ := tail_step hi h
  have h4 := take_compl a.size s _ a r h2 rfl h3
  simp only [rdName]
  rw [show rdUp s i 28 = _ from h1]
  simp only [Int.toNat_natCast]
  rw [show rdTake s (i + (W.put a.size).length) a.size = _ from h4]
  simp [txt]
  omega

def SymIn (x : Sym) : Prop := x.name.size ≤ 28 ∧ (0 ≤ x.kind ∧ x.kind ≤ 255) ∧ 0 ≤ x.pos ∧ x.pos ≤ 65536
def RelIn (x : Rel) : Prop := (0 ≤ x.pos ∧ x.pos ≤ 65536) ∧ (0 ≤ x.kind ∧ x.kind ≤ 255) ∧ x.name.size ≤ 28 ∧ (Lit.int .i64 x.add).wf = true
theorem sym_sound : Sound rdSym symB SymIn := by
  intro s i a j hi h
  simp only [rdSym] at h
  split at h
  · next nm k hx =>
    split at h
    · next kd l hy =>
      split at h
      · next ps m hz =>
        simp at h
        obtain ⟨rfl, rfl⟩ := h
        obtain ⟨a1, a2, a3, a4⟩ := name_sound s i nm k hi hx
        obtain ⟨b1, b2, b3, b4⟩ := kind_sound s k kd l a2 hy
        obtain ⟨c1, c2, c3, c4⟩ := up_sound 65536 s l ps m b2 hz
        refine ⟨by omega, c2, ?_, a4, b4, c4⟩
        rw [a3, b3, c3]
        simp [symB]
      · cases h
    · cases h
  · cases h
theorem sym_compl : Compl rdSym symB SymIn := by
  intro s i a r hi ⟨h1, h2, h3⟩ h
  rw [symB, List.append_assoc, List.append_assoc] at h
  have e1 := name_compl s i a.name _ hi h1 h
  obtain ⟨t1, u1⟩ := tail_step hi h
  have e2 := kind_compl s _ a.kind _ t1 h2 u1
  obtain ⟨t2, u2⟩ := tail_step t1 u1
  have e3 := up_compl 65536 (by decide) s _ a.pos r t2 h3 u2
  simp only [rdSym, e1, e2]
  rw [show rdUp s (i + (txt a.name).length + [a.kind].length) 65536 = _ from e3]
  simp [symB]
  omega
theorem rel_sound : Sound rdRel relB RelIn := by
  intro s i a j hi h
  simp only [rdRel] at h
  split at h
  · next ps k hx =>
    split at h
    · next kd l hy =>
      split at h
      · next nm m hz =>
        split at h
        · next ad n hv =>
          simp at h
          obtain ⟨rfl, rfl⟩ := h
          obtain ⟨a1, a2, a3, a4⟩ := up_sound 65536 s i ps k hi hx
          obtain ⟨b1, b2, b3, b4⟩ := kind_sound s k kd l a2 hy
          obtain ⟨c1, c2, c3, c4⟩ := name_sound s l nm m b2 hz
          obtain ⟨d1, d2, d3, d4⟩ := long_sound s m ad n c2 hv
          refine ⟨by omega, d2, ?_, a4, b4, c4, d4⟩
          rw [a3, b3, c3, d3]
          simp [relB]
        · cases h
      · cases h
    · cases h
  · cases h
theorem rel_compl : Compl rdRel relB RelIn := by
  intro s i a r hi ⟨h1, h2, h3, h4⟩ h
  rw [relB, List.append_assoc, List.append_assoc, List.append_assoc] at h
  have e1 := up_compl 65536 (by decide) s i a.pos _ hi h1 h
  obtain ⟨t1, u1⟩ := tail_step hi h
  have e2 := kind_compl s _ a.kind _ t1 h2 u1
  obtain ⟨t2, u2⟩ := tail_step t1 u1
  have e3 := name_compl s _ a.name _ t2 h3 u2
  obtain ⟨t3, u3⟩ := tail_step t2 u2
  have e4 := long_compl s _ a.add r t3 h4 u3
  simp only [rdRel]
  rw [show rdUp s i 65536 = _ from e1]
  simp only [e2, e3, e4]
  simp [relB]
  omega

/-- Several, one behind the other. -/
def rdMany {α : Type} (f : ByteArray → Nat → Option (α × Nat)) : Nat → ByteArray → Nat → Option (List α × Nat)
  | 0, _, i => some ([], i)
  | n + 1, s, i => match rdMany f n s i with
    | some (l, j) => match f s j with
      | some (x, k) => some (l ++ [x], k)
      | none => none
    | none => none
theorem many_none {α : Type} {f : ByteArray → Nat → Option (α × Nat)} {s : ByteArray} {i n : Nat} (h : rdMany f n s i = none) : ∀ m, rdMany f (n + m) s i = none
  | 0 => h
  | m + 1 => by rw [← Nat.add_assoc, rdMany, many_none h m]
theorem many_cut {α : Type} {f : ByteArray → Nat → Option (α × Nat)} {s : ByteArray} {i k n : Nat} {l : List α} {j : Nat} (h : rdMany f k s i = some (l, j)) (hk : k < n) (hf : f s j = none) : rdMany f n s i = none := by
  have h1 : rdMany f (k + 1) s i = none := by rw [rdMany, h]; simp only [hf]
  have := many_none h1 (n - (k + 1))
  rwa [show k + 1 + (n - (k + 1)) = n by omega] at this
theorem many_sound {α : Type} {f : ByteArray → Nat → Option (α × Nat)} {enc : α → List Int} {ok : α → Prop} (h : Sound f enc ok) : ∀ n, Sound (rdMany f n) (List.flatMap enc) (fun l => l.length = n ∧ ∀ x ∈ l, ok x)
  | 0 => by
    intro s i a j hi e
    simp [rdMany] at e
    obtain ⟨rfl, rfl⟩ := e
    simp [hi]
  | n + 1 => by
    intro s i a j hi e
    simp only [rdMany] at e
    split at e
    · next l k hl =>
      split at e
      · next x m hx =>
        simp at e
        obtain ⟨rfl, rfl⟩ := e
        obtain ⟨a1, a2, a3, a4, a5⟩ := many_sound h n s i l k hi hl
        obtain ⟨b1, b2, b3, b4⟩ := h s k x m a2 hx
        refine ⟨by omega, b2, ?_, by simp [a4], ?_⟩
        · rw [a3, b3]; simp [List.flatMap_append]
        · intro y hy
          rcases List.mem_append.1 hy with h1 | h1
          · exact a5 y h1
          · simp at h1; rw [h1]; exact b4
      · cases e
    · cases e
theorem many_compl {α : Type} {f : ByteArray → Nat → Option (α × Nat)} {enc : α → List Int} {ok : α → Prop} (h : Compl f enc ok) : ∀ n, Compl (rdMany f n) (List.flatMap enc) (fun l => l.length = n ∧ ∀ x ∈ l, ok x)
  | 0 => by
    intro s i a r hi ⟨h1, _⟩ _
    obtain rfl := List.length_eq_zero_iff.1 h1
    simp [rdMany]
  | n + 1 => by
    intro s i a r hi ⟨h1, h2⟩ e
    rcases List.eq_nil_or_concat a with rfl | ⟨l, x, rfl⟩
    · simp at h1
    · rw [List.concat_eq_append] at *
      simp only [List.flatMap_append, List.flatMap_cons, List.flatMap_nil, List.append_nil, List.append_assoc] at e
      have e1 := many_compl h n s i l _ hi ⟨by simpa using h1, fun y hy => h2 y (by simp [hy])⟩ e
      obtain ⟨t1, u1⟩ := tail_step hi e
      have e2 := h s _ x r t1 (h2 x (by simp)) u1
      simp only [rdMany, e1, e2]
      simp [List.flatMap_append]
      omega

/-- COT1. -/
def cot1 : ByteArray := ⟨#[67, 79, 84, 49]⟩
/-- What object reads of a text, ahead of its last look. -/
def rdBody (s : ByteArray) : Option (ObjD × Nat) := match rdTake s 0 4 with
  | some (t, i0) => if t = cot1 then match rdUp s i0 65536 with
    | some (n1, i1) => match rdTake s i1 n1.toNat with
      | some (code, i2) => match rdUp s i2 4096 with
        | some (n2, i3) => match rdMany rdLong n2.toNat s i3 with
          | some (data, i4) => match rdUp s i4 1000 with
            | some (n3, i5) => match rdMany rdSym n3.toNat s i5 with
              | some (syms, i6) => match rdUp s i6 8000 with
                | some (n4, i7) => match rdMany rdRel n4.toNat s i7 with
                  | some (rels, i8) => some (⟨code, data, syms, rels⟩, i8)
                  | none => none
                | none => none
              | none => none
            | none => none
          | none => none
        | none => none
      | none => none
    | none => none else none
  | none => none
def rdObj (s : ByteArray) : Option ObjD := match rdBody s with
  | some (o, j) => if j = s.size ∧ o.may = true then some o else none
  | none => none
/-- What is read lies within. -/
def ObjIn (o : ObjD) : Prop := o.code.size ≤ 65536 ∧ (o.data.length ≤ 4096 ∧ ∀ x ∈ o.data, (Lit.int .i64 x).wf = true) ∧ (o.syms.length ≤ 1000 ∧ ∀ x ∈ o.syms, SymIn x) ∧ (o.rels.length ≤ 8000 ∧ ∀ x ∈ o.rels, RelIn x)
theorem nums_cot1 : nums cot1 = [67, 79, 84, 49] := by decide
theorem body_sound {s : ByteArray} {o : ObjD} {j : Nat} (h : rdBody s = some (o, j)) : j ≤ s.size ∧ nums s = formB o ++ W.tail s j ∧ ObjIn o := by
  unfold rdBody at h
  split at h
  · next t i0 h0 =>
    split at h
    · next ht =>
      split at h
      · next n1 i1 h1 =>
        split at h
        · next code i2 h2 =>
          split at h
          · next n2 i3 h3 =>
            split at h
            · next data i4 h4 =>
              split at h
              · next n3 i5 h5 =>
                split at h
                · next syms i6 h6 =>
                  split at h
                  · next n4 i7 h7 =>
                    split at h
                    · next rels i8 h8 =>
                      simp at h
                      obtain ⟨rfl, rfl⟩ := h
                      obtain ⟨-, q0, p0, -⟩ := take_sound 4 s 0 t i0 (Nat.zero_le _) h0
                      obtain ⟨-, q1, p1, k1⟩ := up_sound 65536 s i0 n1 i1 q0 h1
                      obtain ⟨-, q2, p2, k2⟩ := take_sound n1.toNat s i1 code i2 q1 h2
                      obtain ⟨-, q3, p3, k3⟩ := up_sound 4096 s i2 n2 i3 q2 h3
                      obtain ⟨-, q4, p4, k4, l4⟩ := many_sound long_sound n2.toNat s i3 data i4 q3 h4
                      obtain ⟨-, q5, p5, k5⟩ := up_sound 1000 s i4 n3 i5 q4 h5
                      obtain ⟨-, q6, p6, k6, l6⟩ := many_sound sym_sound n3.toNat s i5 syms i6 q5 h6
                      obtain ⟨-, q7, p7, k7⟩ := up_sound 8000 s i6 n4 i7 q6 h7
                      obtain ⟨-, q8, p8, k8, l8⟩ := many_sound rel_sound n4.toNat s i7 rels i8 q7 h8
                      have e1 : n1 = code.size := by omega
                      have e2 : n2 = data.length := by omega
                      have e3 : n3 = syms.length := by omega
                      have e4 : n4 = rels.length := by omega
                      refine ⟨q8, ?_, by show code.size ≤ _; omega, ⟨by show data.length ≤ _; omega, l4⟩, ⟨by show syms.length ≤ _; omega, l6⟩, ⟨by show rels.length ≤ _; omega, l8⟩⟩
                      show W.tail s 0 = _
                      rw [p0, p1, p2, p3, p4, p5, p6, p7, p8, ht, nums_cot1, e1, e2, e3, e4]
                      simp only [formB, txt, List.append_assoc]
                    · cases h
                  · cases h
                · cases h
              · cases h
            · cases h
          · cases h
        · cases h
      · cases h
    · cases h
  · cases h
theorem body_compl {s : ByteArray} {o : ObjD} {r : List Int} (ho : ObjIn o) (h : nums s = formB o ++ r) : rdBody s = some (o, (formB o).length) := by
  obtain ⟨c1, ⟨c2, d2⟩, ⟨c3, d3⟩, ⟨c4, d4⟩⟩ := ho
  have h' : W.tail s 0 = nums cot1 ++ (W.put o.code.size ++ (nums o.code ++ (W.put o.data.length ++ (o.data.flatMap long ++ (W.put o.syms.length ++ (o.syms.flatMap symB ++ (W.put o.rels.length ++ (o.rels.flatMap relB ++ r)))))))) := by
    rw [show W.tail s 0 = nums s from rfl, h, nums_cot1]
    simp only [formB, txt, List.append_assoc]
  have e0 := take_compl 4 s 0 cot1 _ (Nat.zero_le _) (by decide) h'
  obtain ⟨t0, u0⟩ := tail_step (Nat.zero_le _) h'
  have e1 := up_compl 65536 (by decide) s _ o.code.size _ t0 (by omega) u0
  obtain ⟨t1, u1⟩ := tail_step t0 u0
  have e2 := take_compl o.code.size s _ o.code _ t1 rfl u1
  obtain ⟨t2, u2⟩ := tail_step t1 u1
  have e3 := up_compl 4096 (by decide) s _ o.data.length _ t2 (by omega) u2
  obtain ⟨t3, u3⟩ := tail_step t2 u2
  have e4 := many_compl long_compl o.data.length s _ o.data _ t3 ⟨rfl, d2⟩ u3
  obtain ⟨t4, u4⟩ := tail_step t3 u3
  have e5 := up_compl 1000 (by decide) s _ o.syms.length _ t4 (by omega) u4
  obtain ⟨t5, u5⟩ := tail_step t4 u4
  have e6 := many_compl sym_compl o.syms.length s _ o.syms _ t5 ⟨rfl, d3⟩ u5
  obtain ⟨t6, u6⟩ := tail_step t5 u5
  have e7 := up_compl 8000 (by decide) s _ o.rels.length _ t6 (by omega) u6
  obtain ⟨t7, u7⟩ := tail_step t6 u6
  have e8 := many_compl rel_compl o.rels.length s _ o.rels _ t7 ⟨rfl, d4⟩ u7
  dsimp only at e0 e1 e2 e3 e5 e7
  simp only [rdBody, e0, e1, if_true, Int.toNat_natCast, e2, e3, e4, e5, e6, e7, e8]
  refine congrArg (fun k => some (o, k)) ?_
  rw [nums_cot1]
  simp only [formB, txt, List.length_append, List.length_cons, List.length_nil]
  omega
theorem obj_sound {s : ByteArray} {o : ObjD} (h : rdObj s = some o) : nums s = formB o ∧ ObjIn o ∧ o.may = true := by
  unfold rdObj at h
  split at h
  · next o' j hb =>
    split at h
    · next hj =>
      simp at h
      subst h
      obtain ⟨h1, h2, h3⟩ := body_sound hb
      rw [hj.1, W.tail_end s s.size (Nat.le_refl _), List.append_nil] at h2
      exact ⟨h2, h3, hj.2⟩
    · cases h
  · cases h
theorem obj_compl {s : ByteArray} {o : ObjD} (ho : ObjIn o) (hm : o.may = true) (h : nums s = formB o) : rdObj s = some o := by
  have hb := body_compl (r := []) ho (by rw [List.append_nil]; exact h)
  have hl : (formB o).length = s.size := by rw [← h, nums_len]
  simp only [rdObj, hb]
  rw [if_pos ⟨hl, hm⟩]
/-- No form stands ahead of another. -/
theorem form_cut {o p : ObjD} {r : List Int} (ho : ObjIn o) (hp : ObjIn p) (hb : ∀ n ∈ formB o, 0 ≤ n ∧ n ≤ 255) (h : formB o = formB p ++ r) : r = [] := by
  have h1 := body_compl (s := strOfNums (formB o)) (r := []) ho (by rw [List.append_nil]; exact nums_of hb)
  have h2 := body_compl (s := strOfNums (formB o)) (r := r) hp (by rw [← h]; exact nums_of hb)
  rw [h1] at h2
  simp at h2
  have := congrArg List.length h
  rw [List.length_append, h2.2] at this
  exact List.length_eq_zero_iff.1 (by omega)

end Go.Proofs.YtffokdldgdjkhaaDoor

/- An object that is being read: its block, its rows, beside the reader. -/
namespace Go.Proofs.YtffokdldgdjkhaaDoor
set_option maxRecDepth 100000
open Go.RowKit Go.Maps Go.Lib
set_option linter.unusedVariables false

/-- A row of the call's own. -/
structure Row where
  ty : TypeId
  k : Nat
  v : Value
  n : Nat
  cs : List Value
structure OB (w x : World) (br : Nat) (s : ByteArray) (i z : Nat) (cv : Value) (rs : List Row) (os : List Value) : Prop where
  rd : RdV x br s i
  g : w.grownBy x (some br)
  c0 : x.cell? ⟨z, 0, none⟩ = some cv
  ck : ∀ (k : Nat) (r : Row), rs[k]? = some r → x.cell? ⟨z, k + 1, none⟩ = some r.v
  fz : ∀ o, x.frozen? ⟨z, o, none⟩ = false
  res : Cells x w.heap.size os
  rz : ∀ o, x.frozen? ⟨w.heap.size, o, none⟩ = false
  own : ∀ (k : Nat) (r : Row), rs[k]? = some r → x.ownsRow (w.heap.size + 1) r.ty r.k r.v r.n r.cs ∧ r.v.ownBlock ≠ some z
  dis : ∀ (k l : Nat) (r q : Row), rs[k]? = some r → rs[l]? = some q → k ≠ l → ∀ b, r.v.ownBlock = some b → q.v.ownBlock ≠ some b
  zw : w.heap.size < z
  zl : z < x.heap.size
  lt : br < w.heap.size

theorem grown_row {w x : World} {b o : Nat} {v : Value} {row : Option Nat} (h : w.grownBy x row) (hc : w.cell? ⟨b, o, none⟩ = some v) (hne : row ≠ some b) : x.cell? ⟨b, o, none⟩ = some v := h.cell hc (fun e => hne e.symm)
theorem RdV.grown {w x : World} {br : Nat} {s : ByteArray} {i : Nat} {row : Option Nat} (h : RdV w br s i) (g : w.grownBy x row) (hne : row ≠ some br) : RdV x br s i :=
  ⟨grown_row g h.c0 hne, grown_row g h.c1 hne, fun o => (g.frozen_far ⟨br, o, none⟩ h.lt (fun e => hne e.symm)).trans (h.fz o), h.le, h.sz⟩
theorem grown_into {w x y : World} {br : Nat} {row : Option Nat} (h : w.grownBy x (some br)) (k : x.grownBy y row) (hr : ∀ b, row = some b → w.heap.size ≤ b) : w.grownBy y (some br) :=
  ⟨k.os.trans h.os, k.tape.trans h.tape, k.output.trans h.output, Nat.le_trans h.size k.size, fun j hj hne => (k.block j (Nat.lt_of_lt_of_le hj h.size) (fun e => by have := hr j e.symm; omega)).trans (h.block j hj hne)⟩

theorem OB.call {w x y : World} {br : Nat} {s : ByteArray} {i j z : Nat} {cv : Value} {rs : List Row} {os : List Value} (h : OB w x br s i z cv rs os) (hr : RdV y br s j) (hg : x.grownBy y (some br)) : OB w y br s j z cv rs os :=
  have hl := h.lt
  have hz := h.zw
  have hx := h.zl
  { rd := hr, g := grown_trans h.g hg, c0 := grown_cell hg h.c0 (by omega), ck := fun k r hk => grown_cell hg (h.ck k r hk) (by omega), fz := fun o => grown_froz hg h.zl (by omega) (h.fz o), res := fun k u hu => grown_cell hg (h.res k u hu) (by omega), rz := fun o => grown_froz hg (by omega) (by omega) (h.rz o), own := fun k r hk => ⟨(h.own k r hk).1.kept hg (.inr fun e => by have := ((h.own k r hk).1.lt _ e).1; omega), (h.own k r hk).2⟩, dis := h.dis, zw := h.zw, zl := Nat.lt_of_lt_of_le h.zl hg.size, lt := h.lt }
theorem OB.below {w x y : World} {br : Nat} {s : ByteArray} {i z : Nat} {cv : Value} {rs : List Row} {os : List Value} (h : OB w x br s i z cv rs os) (hb : Below x.heap.size x y) : OB w y br s i z cv rs os :=
  h.call (h.rd.below hb) ⟨hb.os, hb.tape, hb.output, hb.size, fun k hk _ => hb.block k hk⟩
theorem OB.drew {w x : World} {br : Nat} {s : ByteArray} {i z : Nat} {cv : Value} {rs : List Row} {os : List Value} (h : OB w x br s i z cv rs os) : OB w x.drew br s i z cv rs os := h.below (Below.refl _ _).drew
theorem OB.code {w x : World} {br : Nat} {s : ByteArray} {i z : Nat} {cv : Value} {rs : List Row} {os : List Value} (h : OB w x br s i z cv rs os) (u : Value) : OB w (x.setCell ⟨z, 0, none⟩ u) br s i z u rs os :=
  have hl := h.lt
  have hz := h.zw
  { rd := h.rd.far _ _ (by show z ≠ br; omega), g := grown_far h.g _ _ (by show w.heap.size ≤ z; omega), c0 := World.cell?_setCell_same' _ _ _ (by rw [h.c0]; rfl), ck := fun k r hk => (World.cell?_setCell_other _ _ _ _ (by simp)).trans (h.ck k r hk), fz := fun o => by rw [World.frozen?_setCell]; exact h.fz o, res := fun k u hu => (World.cell?_setCell_far _ _ _ _ (by show z ≠ w.heap.size; omega)).trans (h.res k u hu), rz := fun o => by rw [World.frozen?_setCell]; exact h.rz o, own := fun k r hk => ⟨(h.own k r hk).1.kept (gb_setO x ⟨z, 0, none⟩ u) (.inr (h.own k r hk).2), (h.own k r hk).2⟩, dis := h.dis, zw := h.zw, zl := by rw [World.size_setCell]; exact h.zl, lt := h.lt }
theorem OB.ret {w x : World} {br : Nat} {s : ByteArray} {i z : Nat} {cv : Value} {rs : List Row} {os : List Value} (h : OB w x br s i z cv rs os) (k : Nat) (hk : k < os.length) (u : Value) : OB w (x.setCell ⟨w.heap.size, k, none⟩ u) br s i z cv rs (os.set k u) :=
  have hl := h.lt
  have hz := h.zw
  { rd := h.rd.far _ _ (by show w.heap.size ≠ br; omega), g := grown_far h.g _ _ (Nat.le_refl _), c0 := (World.cell?_setCell_far _ _ _ _ (by show w.heap.size ≠ z; omega)).trans h.c0, ck := fun k r hk => (World.cell?_setCell_far _ _ _ _ (by show w.heap.size ≠ z; omega)).trans (h.ck k r hk), fz := fun o => by rw [World.frozen?_setCell]; exact h.fz o,
    res := fun j v hv => by
      by_cases e : k = j
      · subst e
        rw [List.getElem?_set_self hk] at hv
        cases hv
        refine World.cell?_setCell_same' _ _ _ ?_
        rw [h.res k os[k] (by simp [hk])]
        rfl
      · rw [List.getElem?_set_ne e] at hv
        rw [World.cell?_setCell_other _ _ _ _ (fun e' => e (by have := congrArg Addr.off e'; simpa using this))]
        exact h.res j v hv
    rz := fun o => by rw [World.frozen?_setCell]; exact h.rz o, own := fun k r hk => ⟨(h.own k r hk).1.kept (gb_setO x ⟨w.heap.size, _, none⟩ u) (.inr fun e => by have := ((h.own k r hk).1.lt _ e).1; simp at this; omega), (h.own k r hk).2⟩, dis := h.dis, zw := h.zw, zl := by rw [World.size_setCell]; exact h.zl, lt := h.lt }
theorem OB.push {w x y : World} {br : Nat} {s : ByteArray} {i z : Nat} {cv : Value} {rs : List Row} {os : List Value} (h : OB w x br s i z cv rs os) {k : Nat} {r : Row} (hk : rs[k]? = some r) {g n cap : Nat} {cs : List Value} {H : Nat} (ho : y.ownsRow (w.heap.size + 1) r.ty r.k (.slice (some ⟨g, 0, none⟩) n cap) n cs) (hg : x.grownBy y r.v.ownBlock) (hat : r.v.ownBlock = some g ∨ g = H) (hH : x.heap.size = H) :
    OB w (y.setCell ⟨z, k + 1, none⟩ (.slice (some ⟨g, 0, none⟩) n cap)) br s i z cv (rs.set k ⟨r.ty, r.k, .slice (some ⟨g, 0, none⟩) n cap, n, cs⟩) os := by
  subst hH
  have hl := h.lt
  have hz := h.zw
  have hx := h.zl
  obtain ⟨hor, hzr⟩ := h.own k r hk
  have hrb : ∀ b, r.v.ownBlock = some b → w.heap.size + 1 ≤ b := fun b e => (hor.lt b e).1
  have nbr : r.v.ownBlock ≠ some br := fun e => by have := hrb _ e; omega
  have nws : r.v.ownBlock ≠ some w.heap.size := fun e => by have := hrb _ e; omega
  have gz : g ≠ z := fun e => by
    subst e
    rcases hat with h1 | h1
    · exact hzr h1
    · omega
  have hkl : k < rs.length := (List.getElem?_eq_some_iff.1 hk).1
  have hY : RdV y br s i := h.rd.grown hg nbr
  have row : ∀ l q, (rs.set k ⟨r.ty, r.k, .slice (some ⟨g, 0, none⟩) n cap, n, cs⟩)[l]? = some q → (l = k ∧ q = ⟨r.ty, r.k, .slice (some ⟨g, 0, none⟩) n cap, n, cs⟩) ∨ (l ≠ k ∧ rs[l]? = some q) := fun l q hq => by
    by_cases e : k = l
    · subst e
      rw [List.getElem?_set_self hkl] at hq
      exact .inl ⟨rfl, by simpa using hq.symm⟩
    · rw [List.getElem?_set_ne e] at hq
      exact .inr ⟨fun e' => e e'.symm, hq⟩
  refine { rd := hY.far _ _ (by show z ≠ br; omega), g := grown_far (grown_into h.g hg (fun b e => by have := hrb b e; omega)) _ _ (by show w.heap.size ≤ z; omega), c0 := (World.cell?_setCell_other _ _ _ _ (by simp)).trans (grown_row hg h.c0 hzr), ck := ?_, fz := fun o => by rw [World.frozen?_setCell]; exact (hg.frozen_far ⟨z, o, none⟩ hx (fun e => hzr e.symm)).trans (h.fz o), res := fun j u hu => (World.cell?_setCell_far _ _ _ _ (by show z ≠ w.heap.size; omega)).trans (grown_row hg (h.res j u hu) nws), rz := fun o => by rw [World.frozen?_setCell]; exact (hg.frozen_far ⟨w.heap.size, o, none⟩ (by show w.heap.size < _; omega) (fun e => nws e.symm)).trans (h.rz o), own := ?_, dis := ?_, zw := h.zw, zl := by rw [World.size_setCell]; exact Nat.lt_of_lt_of_le hx hg.size, lt := h.lt }
  · intro l q hq
    rcases row l q hq with ⟨rfl, rfl⟩ | ⟨hne, hq'⟩
    · exact World.cell?_setCell_same' _ _ _ (by rw [grown_row hg (h.ck l r hk) hzr]; rfl)
    · exact (World.cell?_setCell_other _ _ _ _ (fun e => hne (by have := congrArg Addr.off e; simp at this; omega))).trans (grown_row hg (h.ck l q hq') hzr)
  · intro l q hq
    rcases row l q hq with ⟨rfl, rfl⟩ | ⟨hne, hq'⟩
    · exact ⟨ho.kept (gb_setO y ⟨z, _, none⟩ _) (.inr fun e => gz (by simpa [Value.ownBlock] using e)), fun e => gz (by simpa [Value.ownBlock] using e)⟩
    · obtain ⟨o1, o2⟩ := h.own l q hq'
      refine ⟨(o1.kept hg ?_).kept (gb_setO y ⟨z, _, none⟩ _) (.inr o2), o2⟩
      cases e : q.v.ownBlock with
      | none => exact .inl rfl
      | some b => exact .inr fun e' => h.dis l k q r hq' hk hne b e e'.symm
  · intro l m q p hq hp hlm b hb
    rcases row l q hq with ⟨rfl, rfl⟩ | ⟨hne, hq'⟩
    · rcases row m p hp with ⟨rfl, rfl⟩ | ⟨hne', hp'⟩
      · exact absurd rfl hlm
      · have : g = b := by simpa [Value.ownBlock] using hb
        subst this
        intro e
        rcases hat with h1 | h1
        · exact h.dis m l p r hp' hk hne' g e h1
        · have := ((h.own m p hp').1.lt _ e).2
          omega
    · rcases row m p hp with ⟨rfl, rfl⟩ | ⟨hne', hp'⟩
      · intro e
        have : g = b := by simpa [Value.ownBlock] using e
        subst this
        rcases hat with h1 | h1
        · exact h.dis l m q r hq' hk hne g hb h1
        · have := ((h.own l q hq').1.lt _ hb).2
          omega
      · exact h.dis l m q p hq' hp' hlm b hb

def intC (x : Int) : List Value := [.int .i64 x]
def symC (x : Sym) : List Value := [.string x.name, .int .i64 x.kind, .int .i64 x.pos]
def relC (x : Rel) : List Value := [.int .i64 x.pos, .int .i64 x.kind, .string x.name, .int .i64 x.add]
/-- An object whose rows are all of them new: nothing of it lies below B. -/
structure ObjF (B : Nat) (w : World) (v : Value) (o : ObjD) : Prop where
  form : ∃ v1 v2 v3, v = .agg #[.string o.code, v1, v2, v3] ∧ w.ownsRow B 2 1 v1 o.data.length (o.data.flatMap intC) ∧ w.ownsRow B 80 3 v2 o.syms.length (o.syms.flatMap symC) ∧ w.ownsRow B 130 4 v3 o.rels.length (o.rels.flatMap relC)
  isin : ObjIn o

theorem flat_at {α : Type} (f : α → List Value) (m : Nat) (d : α) (hm : ∀ x, (f x).length = m) : ∀ (l : List α) (i j : Nat), i < l.length → j < m → (l.flatMap f)[i * m + j]? = (f (l.getD i d))[j]?
  | [], i, j, hi, _ => by simp at hi
  | x :: l, 0, j, hi, hj => by
    rw [List.flatMap_cons, Nat.zero_mul, Nat.zero_add, List.getElem?_append_left (by rw [hm]; exact hj)]
    rfl
  | x :: l, i + 1, j, hi, hj => by
    rw [List.flatMap_cons, List.getElem?_append_right (by rw [hm, Nat.succ_mul]; omega), hm, show (i + 1) * m + j - m = i * m + j by rw [Nat.succ_mul]; omega, flat_at f m d hm l i j (by simpa using hi) hj]
    rfl
theorem row_at {w : World} {B : Nat} {ty : TypeId} {m n : Nat} {v : Value} {α : Type} {f : α → List Value} {l : List α} (d : α) (hm : ∀ x, (f x).length = m) (h : w.ownsRow B ty m v n (l.flatMap f)) (hn : l.length = n) :
    ∃ a c, v = .slice a n c ∧ (a = none → n = 0 ∧ c = 0) ∧ (n = 0 ∨ ∃ b off, a = some ⟨b, off, none⟩ ∧ ∀ i, i < n → ∀ j u, j < m → (f (l.getD i d))[j]? = some u → w.cell? ⟨b, off + i * m + j, none⟩ = some u) := by
  rcases h.2 with ⟨rfl, rfl⟩ | ⟨g, cap, cur, rfl, hb, hh, h1, h2, h3, h4⟩
  · exact ⟨none, 0, rfl, fun _ => ⟨rfl, rfl⟩, .inl rfl⟩
  · refine ⟨_, _, rfl, fun e => (by cases e), .inr ⟨g, 0, rfl, fun i hi j u hj hu => ?_⟩⟩
    have hlt : i * m + j < n * m := by
      have : (i + 1) * m ≤ n * m := Nat.mul_le_mul_right m hi
      rw [Nat.succ_mul] at this
      omega
    rw [Nat.zero_add, h.cellAt _ hlt, flat_at f m d hm l i j (by omega) hj]
    exact hu
theorem ObjF.toV {B : Nat} {w : World} {v : Value} {o : ObjD} (h : ObjF B w v o) : ObjV w v o := by
  obtain ⟨v1, v2, v3, rfl, o1, o2, o3⟩ := h.form
  obtain ⟨hc, ⟨-, hd⟩, ⟨-, hs⟩, ⟨-, hr⟩⟩ := h.isin
  obtain ⟨a1, c1, rfl, n1, k1⟩ := row_at (m := 1) (f := intC) 0 (fun _ => rfl) o1 rfl
  obtain ⟨a2, c2, rfl, n2, k2⟩ := row_at (m := 3) (f := symC) noSym (fun _ => rfl) o2 rfl
  obtain ⟨a3, c3, rfl, n3, k3⟩ := row_at (m := 4) (f := relC) noRel (fun _ => rfl) o3 rfl
  have w64 : ∀ {x : Int} {m : Int}, 0 ≤ x → x ≤ 65536 → (Lit.int .i64 x).wf = true := fun h0 h1 => by
    simp [Lit.wf, IntKind.min, IntKind.max, IntKind.signed, IntKind.bits]
    omega
  refine ⟨⟨_, _, _, _, _, _, _, _, _, rfl, by unfold maxLen; omega, ⟨rfl, hd, n1, ?_⟩, ⟨rfl, fun x hx => ?_, n2, ?_⟩, ⟨rfl, fun x hx => ?_, n3, ?_⟩⟩⟩
  · rcases k1 with h0 | ⟨b, off, ha, hk⟩
    · exact .inl h0
    · exact .inr ⟨b, off, ha, fun i hi => by have := hk i hi 0 _ (by decide) rfl; simpa using this⟩
  · obtain ⟨h1, h2, h3⟩ := hs x hx
    exact ⟨by unfold maxLen; omega, w64 (m := 0) h2.1 (by omega), w64 (m := 0) h3.1 h3.2⟩
  · rcases k2 with h0 | ⟨b, off, ha, hk⟩
    · exact .inl h0
    · exact .inr ⟨b, off, ha, fun i hi => ⟨by have := hk i hi 0 _ (by decide) rfl; simpa using this, hk i hi 1 _ (by decide) rfl, hk i hi 2 _ (by decide) rfl⟩⟩
  · obtain ⟨h1, h2, h3, h4⟩ := hr x hx
    exact ⟨by unfold maxLen; omega, w64 (m := 0) h2.1 (by omega), w64 (m := 0) h1.1 h1.2, h4⟩
  · rcases k3 with h0 | ⟨b, off, ha, hk⟩
    · exact .inl h0
    · exact .inr ⟨b, off, ha, fun i hi => ⟨by have := hk i hi 0 _ (by decide) rfl; simpa using this, hk i hi 1 _ (by decide) rfl, hk i hi 2 _ (by decide) rfl, hk i hi 3 _ (by decide) rfl⟩⟩
theorem ObjF.below {B : Nat} {w w1 : World} {v : Value} {o : ObjD} (h : ObjF B w v o) (hb : Below w.heap.size w w1) : ObjF B w1 v o := by
  obtain ⟨v1, v2, v3, e, o1, o2, o3⟩ := h.form
  have g : w.grownBy w1 none := ⟨hb.os, hb.tape, hb.output, hb.size, fun k hk _ => hb.block k hk⟩
  have kp : ∀ {ty : TypeId} {k : Nat} {u : Value} {n : Nat} {cs : List Value}, w.ownsRow B ty k u n cs → w1.ownsRow B ty k u n cs := fun {ty k u n cs} hu => by
    cases e : u.ownBlock with
    | none => exact hu.kept g (.inl e)
    | some b => exact hu.kept g (.inr (by rw [e]; simp))
  exact ⟨⟨v1, v2, v3, e, kp o1, kp o2, kp o3⟩, h.isin⟩

end Go.Proofs.YtffokdldgdjkhaaDoor

/- What object comes to. (Written by gen_object.py.) -/
namespace Go.Proofs.YtffokdldgdjkhaaDoor
set_option maxRecDepth 100000
open Go.RowKit Go.Maps Go.Lib
set_option linter.unusedVariables false

theorem infoI : (Tryd.prog.info? 2).map (fun i => (i.zero, i.size, i.bytes)) = some (some (.int .i64 0), 1, 8) := by kernel_rfl
theorem infoS : (Tryd.prog.info? 80).map (fun i => (i.zero, i.size, i.bytes)) = some (some (.agg #[.string { data := #[] }, .int .i64 0, .int .i64 0]), 3, 32) := by kernel_rfl
theorem infoR : (Tryd.prog.info? 130).map (fun i => (i.zero, i.size, i.bytes)) = some (some (.agg #[.int .i64 0, .int .i64 0, .string { data := #[] }, .int .i64 0]), 4, 40) := by kernel_rfl
theorem many_len {α : Type} {f : ByteArray → Nat → Option (α × Nat)} {s : ByteArray} {i : Nat} : ∀ {n : Nat} {l : List α} {j : Nat}, rdMany f n s i = some (l, j) → l.length = n
  | 0, l, j, h => by simp [rdMany] at h; simp [← h.1]
  | n + 1, l, j, h => by
    simp only [rdMany] at h
    split at h
    · next l' k hl =>
      split at h
      · next x m hx =>
        simp at h
        rw [← h.1, List.length_append, many_len hl]
        rfl
      · cases h
    · cases h
theorem own_slice {w : World} {B : Nat} {e : TypeId} {size : Nat} {v : Value} {n : Nat} {xs : List Value} (h : w.ownsRow B e size v n xs) : ∃ a c, v = .slice a n c := by
  rcases h.2 with ⟨rfl, rfl⟩ | ⟨g, cap, cur, rfl, _⟩
  · exact ⟨_, _, rfl⟩
  · exact ⟨_, _, rfl⟩
theorem hcot : ((⟨#[67, 79, 84, 49]⟩ : ByteArray) = cot1) = True := eq_true rfl
set_option maxRecDepth 100000 in
set_option maxHeartbeats 8000000 in
theorem robj_any {w : World} {br : Nat} {s : ByteArray} (h : RdV w br s 0) :
    Calls Tryd.prog 73 #[.pointer (some ⟨br, 0, none⟩)] w fun e w' => ((∃ o, rdObj s = some o ∧ ∃ v, e = .returned v ∧ ObjF (w.heap.size + 1) w' v o) ∨ (rdObj s = none ∧ Fails e)) ∧ w.grownBy w' (some br) := by
  have hbr := h.lt
  obtain ⟨i1, hi1, hz10, hz11, hz12⟩ := info_parts infoI
  obtain ⟨i2, hi2, hz20, hz21, hz22⟩ := info_parts infoS
  obtain ⟨i3, hi3, hz30, hz31, hz32⟩ := info_parts infoR
  obtain ⟨W1, hW1⟩ : ∃ W1, w.alloc (.cells #[.string { data := #[] }, .slice none 0 0, .slice none 0 0, .slice none 0 0] 67) = W1 := ⟨_, rfl⟩
  have s1 : W1.heap.size = w.heap.size + 1 := by subst hW1; simp
  have b1 : Below w.heap.size w W1 := by subst hW1; exact bl_one _ _
  have HCR : Hid (Cells W1 w.heap.size [.string { data := #[] }, .slice none 0 0, .slice none 0 0, .slice none 0 0]) := fun j u hu => by subst hW1; exact cell_last rfl (by simpa using hu)
  have HRZ : Hid (∀ o, W1.frozen? ⟨w.heap.size, o, none⟩ = false) := fun o => by subst hW1; exact World.frozen?_alloc_at _ _ _ _ rfl
  have HR : Hid (RdV W1 br s 0) := h.below b1
  have HG : Hid (w.grownBy W1 (some br)) := ⟨b1.os, b1.tape, b1.output, b1.size, fun k hk _ => b1.block k hk⟩
  clear h b1
  go_enter Tryd.func73, Tryd.ntmps73
  go_wp2_with fail
  refine (rtake_any HR.out 4 (by decide)).mono ?_
  rintro e y0 ⟨⟨t, j0, hf, rfl, hr⟩ | ⟨hf, c, rfl⟩, hg⟩
  rotate_left
  · have HF : Hid (rdObj s = none) := by show _ = _; simp only [rdObj, rdBody, hf]
    have HGG : Hid _ := grown_trans HG.out hg
    clear hf hg
    go_wp2
    exact ⟨rfl, .inr ⟨HF.out, c, rfl⟩, HGG.out⟩
  have F0 : Hid _ := hf
  have HR1 : Hid _ := hr
  have HG1 : Hid _ := grown_trans HG.out hg
  have HCR1 : Hid (Cells y0 w.heap.size [.string { data := #[] }, .slice none 0 0, .slice none 0 0, .slice none 0 0]) := fun j u hu => grown_cell hg (HCR.out j u hu) (by omega)
  have HRZ1 : Hid (∀ o, y0.frozen? ⟨w.heap.size, o, none⟩ = false) := fun o => grown_froz hg (by omega) (by omega) (HRZ.out o)
  have z0 : w.heap.size + 1 ≤ y0.heap.size := by have := hg.size; omega
  clear hf hr hg HR HG HCR HRZ
  by_cases ht : t = { data := #[67, 79, 84, 49] }
  rotate_left
  · have HF : Hid (rdObj s = none) := by show _ = _; simp only [rdObj, rdBody, F0.out]; rw [if_neg (show ¬ t = cot1 from ht)]
    have hd : (t.toList == [67, 79, 84, 49]) = false := by rw [ByteArray.toList_eq]; exact beq_eq_false_iff_ne.2 (fun e => ht (bytes_ext e))
    go_wp2
    exact ⟨rfl, .inr ⟨HF.out, _, rfl⟩, HG1.out⟩
  subst ht
  obtain ⟨W2, hW2⟩ : ∃ W2, y0.alloc (.cells #[.string { data := #[] }, .slice none 0 0, .slice none 0 0, .slice none 0 0] 67) = W2 := ⟨_, rfl⟩
  obtain ⟨z, hz⟩ : ∃ z, y0.heap.size = z := ⟨_, rfl⟩
  have hb2 : Below y0.heap.size y0 W2 := by subst hW2; exact bl_one _ _
  have s2 : W2.heap.size = z + 1 := by subst hW2; simp; omega
  have HB : Hid (OB w W2 br s j0 z (.string { data := #[] }) [⟨2, 1, .slice none 0 0, 0, []⟩, ⟨80, 3, .slice none 0 0, 0, []⟩, ⟨130, 4, .slice none 0 0, 0, []⟩] [.string { data := #[] }, .slice none 0 0, .slice none 0 0, .slice none 0 0]) := by
    have own : ∀ (k : Nat) (r : Row), ([⟨2, 1, .slice none 0 0, 0, []⟩, ⟨80, 3, .slice none 0 0, 0, []⟩, ⟨130, 4, .slice none 0 0, 0, []⟩] : List Row)[k]? = some r → r.v = .slice none 0 0 ∧ r.n = 0 ∧ r.cs = [] ∧ k < 3 := fun k r hk => by
      match k, hk with
      | 0, hk => cases hk; exact ⟨rfl, rfl, rfl, by decide⟩
      | 1, hk => cases hk; exact ⟨rfl, rfl, rfl, by decide⟩
      | 2, hk => cases hk; exact ⟨rfl, rfl, rfl, by decide⟩
      | k + 3, hk => simp at hk
    have cz : Cells W2 z [.string { data := #[] }, .slice none 0 0, .slice none 0 0, .slice none 0 0] := fun j u hu => by subst hW2; exact cell_last hz.symm (by simpa using hu)
    refine { rd := HR1.out.below hb2, g := grown_below HG1.out hb2, c0 := cz 0 _ rfl, ck := fun k r hk => ?_, fz := fun o => by subst hW2; exact World.frozen?_alloc_at _ _ _ _ hz.symm, res := fun j u hu => cell_thru hb2 (HCR1.out j u hu), rz := fun o => (hb2.frozen (p := ⟨w.heap.size, o, none⟩) (by show w.heap.size < _; omega)).trans (HRZ1.out o), own := fun k r hk => ?_, dis := fun k l r q hr hq hkl b hb => ?_, zw := by omega, zl := by omega, lt := hbr }
    · obtain ⟨h1, h2, h3, h4⟩ := own k r hk
      rw [h1]
      rcases (show k = 0 ∨ k = 1 ∨ k = 2 by omega) with rfl | rfl | rfl
      · exact cz 1 _ rfl
      · exact cz 2 _ rfl
      · exact cz 3 _ rfl
    · obtain ⟨h1, h2, h3, h4⟩ := own k r hk
      rw [h1, h2, h3]
      exact ⟨World.ownsRow_nil _ _ _ _, by simp [Value.ownBlock]⟩
    · obtain ⟨h1, -⟩ := own k r hr
      rw [h1] at hb
      simp [Value.ownBlock] at hb
  clear HR1 HG1 HCR1 HRZ1 hb2 s2
  go_wp2_with fail
  refine (rup_any HB.out.rd 65536 (by decide)).mono ?_
  rintro e y ⟨⟨x, j1, hf, rfl, hr⟩ | ⟨hf, c, rfl⟩, hg⟩
  rotate_left
  · have HF : Hid (rdObj s = none) := by show _ = _; simp only [rdObj, rdBody, hcot, if_true, F0.out, hf]
    have HGG : Hid _ := grown_trans HB.out.g hg
    clear hf hg
    go_wp2
    exact ⟨rfl, .inr ⟨HF.out, c, rfl⟩, HGG.out⟩
  obtain ⟨hx0, hx1⟩ := rdUp_nonneg hf
  obtain ⟨n1, rfl⟩ : ∃ n : Nat, x = n := ⟨x.toNat, by omega⟩
  have hn1 : n1 ≤ 65536 := by omega
  have F1 : Hid (rdUp s j0 65536 = some ((n1 : Int), j1)) := hf
  have HB : Hid _ := HB.out.call hr hg
  clear hf hr hg hx0 hx1
  go_wp2_with fail
  refine (rtake_any HB.out.rd n1 (by omega)).mono ?_
  rintro e y2 ⟨⟨code, j2, hf, rfl, hr⟩ | ⟨hf, c, rfl⟩, hg⟩
  rotate_left
  · have HF : Hid (rdObj s = none) := by show _ = _; simp only [rdObj, rdBody, hcot, if_true, Int.toNat_natCast, F0.out, F1.out, hf]
    have HGG : Hid _ := grown_trans HB.out.g hg
    clear hf hg
    go_wp2
    exact ⟨rfl, .inr ⟨HF.out, c, rfl⟩, HGG.out⟩
  have F2 : Hid _ := hf
  have HBy : Hid _ := HB.out.call hr hg
  have q := HBy.out.c0
  have qz := HBy.out.fz 0
  obtain ⟨Y2, hY2⟩ : ∃ Y, y2.setCell ⟨z, 0, none⟩ (.string code) = Y := ⟨_, rfl⟩
  have hp := HBy.out.code (.string code)
  rw [hY2] at hp
  have HB : Hid (OB w Y2 br s j2 z (.string code) [⟨2, 1, .slice none 0 0, 0, []⟩, ⟨80, 3, .slice none 0 0, 0, []⟩, ⟨130, 4, .slice none 0 0, 0, []⟩] [.string { data := #[] }, .slice none 0 0, .slice none 0 0, .slice none 0 0]) := hp
  clear hf hr hg hp HBy
  go_wp2_with fail
  clear q qz hY2
  refine (rup_any HB.out.rd 4096 (by decide)).mono ?_
  rintro e y ⟨⟨x, j3, hf, rfl, hr⟩ | ⟨hf, c, rfl⟩, hg⟩
  rotate_left
  · have HF : Hid (rdObj s = none) := by show _ = _; simp only [rdObj, rdBody, hcot, if_true, Int.toNat_natCast, F0.out, F1.out, F2.out, hf]
    have HGG : Hid _ := grown_trans HB.out.g hg
    clear hf hg
    go_wp2
    exact ⟨rfl, .inr ⟨HF.out, c, rfl⟩, HGG.out⟩
  obtain ⟨hx0, hx1⟩ := rdUp_nonneg hf
  obtain ⟨n3, rfl⟩ : ∃ n : Nat, x = n := ⟨x.toNat, by omega⟩
  have hn3 : n3 ≤ 4096 := by omega
  have F3 : Hid (rdUp s j2 4096 = some ((n3 : Int), j3)) := hf
  have HB : Hid _ := HB.out.call hr hg
  clear hf hr hg hx0 hx1
  go_wp2_with fail
  go_loopg [15] n3 (fun r iv wq => ∃ (k : Nat) (l : List Int) (j : Nat) (v : Value), iv = .int .i64 k ∧ k ≤ n3 ∧ n3 - k ≤ r ∧ Hid (rdMany rdLong k s j3 = some (l, j)) ∧ Hid (OB w wq br s j z (.string code) [⟨2, 1, v, k, l.flatMap intC⟩, ⟨80, 3, .slice none 0 0, 0, []⟩, ⟨130, 4, .slice none 0 0, 0, []⟩] [.string { data := #[] }, .slice none 0 0, .slice none 0 0, .slice none 0 0]))
  case atStart => exact ⟨0, [], j3, _, rfl, Nat.zero_le _, by omega, (rfl : rdMany rdLong 0 s j3 = some ([], j3)), HB.out⟩
  case round =>
    obtain ⟨k, l, j, v, rfl, hk, hr, HL, HB⟩ := hrel
    by_cases hlt : k < n3
    · have hii : (k : Int) < n3 := by omega
      have hin : 0 ≤ (k : Int) := by omega
      go_wp2_with fail
      have HD : Hid (OB w wr.drew br s j z (.string code) [⟨2, 1, v, k, l.flatMap intC⟩, ⟨80, 3, .slice none 0 0, 0, []⟩, ⟨130, 4, .slice none 0 0, 0, []⟩] [.string { data := #[] }, .slice none 0 0, .slice none 0 0, .slice none 0 0]) := HB.out.drew
      refine wp_region_held_drew (S := (fun w' : World => w'.cell? ⟨br, 0, none⟩ = some (.string s))) (by kernel_rfl) HD.out.rd.c0 (fun hHeld => ?_)
      refine wpAnyH_take (i := 0) (v := ?_) (get0 _ _) (by kernel_rfl) (by kernel_rfl) (by kernel_rfl) (fun _ _ _ h => h) (Or.inl ⟨by rfl, ?_⟩) (by assumption) ?_
      rotate_left
      · (intro w hSw; (try dsimp only at hSw); go_simp <;> with_reducible rfl)
      simp only [Act.put, List.setIfInBounds_toArray, List.set_cons_zero, List.set_cons_succ]
      refine wpAnyH_take (i := 2) (v := ?_) (get1 (get1 (get0 _ _))) (by kernel_rfl) (by kernel_rfl) (by kernel_rfl) (fun _ _ _ h => h) (Or.inl ⟨by rfl, ?_⟩) (by assumption) ?_
      rotate_left
      · (intro w hSw; (try dsimp only at hSw); go_simp <;> with_reducible rfl)
      simp only [Act.put, List.setIfInBounds_toArray, List.set_cons_zero, List.set_cons_succ]
      refine wpAnyH_ready (rs := [1, 3]) (by kernel_rfl) (by simp) ?_
      refine AllReadyH.cons (get1 (get0 _ _)) (fun K hK => ?_) ?_
      · have m1 := HD.out.ck 0 _ rfl
        go_simp
        refine hK.out _ _ hHeld (fun hHeld => ?_)
        clear hK K m1
        try simp only [Act.put, List.setIfInBounds_toArray, List.set_cons_zero, List.set_cons_succ]
        refine wpAnyH_ready (rs := [3]) (by kernel_rfl) (by simp) ?_
        refine AllReadyH.cons (get1 (get1 (get1 (get0 _ _)))) (fun K hK => ?_) ?_
        · go_simp
          refine (rlong_any HD.out.rd).mono ?_
          rintro e y ⟨⟨x, j', hf, rfl, hr⟩ | ⟨hf, c, rfl⟩, hg⟩
          rotate_left
          · have HF : Hid (rdObj s = none) := by show _ = _; have hcut := many_cut HL.out hlt hf; simp only [rdObj, rdBody, hcot, if_true, Int.toNat_natCast, F0.out, F1.out, F2.out, F3.out, hcut]
            have HGG : Hid _ := grown_trans HD.out.g hg
            clear hf hg hK
            go_wp2
            exact ⟨rfl, .inr ⟨HF.out, c, rfl⟩, HGG.out⟩
          have HC : Hid (OB w y br s j' z (.string code) [⟨2, 1, v, k, l.flatMap intC⟩, ⟨80, 3, .slice none 0 0, 0, []⟩, ⟨130, 4, .slice none 0 0, 0, []⟩] [.string { data := #[] }, .slice none 0 0, .slice none 0 0, .slice none 0 0]) := HD.out.call hr hg
          have HX : Hid _ := hf
          clear hf hr hg
          try go_wp2_with fail
          refine hK.out _ _ HC.out.rd.c0 (fun hHeld => ?_)
          clear hK K
          try simp only [Act.put, List.setIfInBounds_toArray, List.set_cons_zero, List.set_cons_succ]
          refine wpAnyH_ready (rs := [4]) (by kernel_rfl) (by simp) ?_
          refine AllReadyH.cons (get1 (get1 (get1 (get1 (get0 _ _))))) (fun K hK => ?_) ?_
          · go_simp
            have HE : Hid (OB w (y.alloc (.cells #[.int .i64 x] 2)) br s j' z (.string code) [⟨2, 1, v, k, l.flatMap intC⟩, ⟨80, 3, .slice none 0 0, 0, []⟩, ⟨130, 4, .slice none 0 0, 0, []⟩] [.string { data := #[] }, .slice none 0 0, .slice none 0 0, .slice none 0 0]) := HC.out.below (bl_one _ _)
            refine hK.out _ _ HE.out.rd.c0 (fun hHeld => ?_)
            clear hK K
            try simp only [Act.put, List.setIfInBounds_toArray, List.set_cons_zero, List.set_cons_succ]
            refine wpAnyH_ready (rs := [5]) (by kernel_rfl) (by simp) ?_
            refine AllReadyH.cons (get1 (get1 (get1 (get1 (get1 (get0 _ _)))))) (fun K hK => ?_) AllReadyH.nil
            have HNC : Hid (∀ j u, (intC x)[j]? = some u → (y.alloc (.cells #[.int .i64 x] 2)).cell? ((⟨y.heap.size, 0, none⟩ : Addr).add j) = some u) := fun j u hu => by rw [Addr.add_lit, Nat.zero_add]; exact cell_last rfl (by simpa [intC] using hu)
            refine step_append_lies _ (by rfl) _ _ 22 (by rfl) (w.heap.size + 1) 2 i1 _ 1 8 Tryd.underlying22 hi1 hz10 hz11 hz12 (by rfl) (by decide) v k _ (by rfl) (HE.out.own 0 _ rfl).1 ⟨y.heap.size, 0, none⟩ 1 1 (intC x) (by rfl) (by rfl) HNC.out (by intro u hu; simp [intC] at hu; first | (rcases hu with rfl | rfl | rfl | rfl <;> rfl) | (rcases hu with rfl | rfl | rfl <;> rfl) | (subst hu; rfl)) (by decide) (by unfold maxLen; omega) (by omega) (by have := HE.out.zw; have := HE.out.zl; omega) (y.heap.size + 1) (by simp) ?_
            intro g cap Y6 ho6 hg6 hat6 hlt6
            have nbr : v.ownBlock ≠ some br := fun e => by have h1 := ((HE.out.own 0 _ rfl).1.lt _ e).1; have := HE.out.lt; omega
            have nz : v.ownBlock ≠ some z := (HE.out.own 0 _ rfl).2
            have h60 := (HE.out.rd.grown hg6 nbr).c0
            have m6 : Y6.cell? ⟨z, 1, none⟩ = some v := grown_row hg6 (HE.out.ck 0 _ rfl) nz
            have z6 : Y6.frozen? ⟨z, 1, none⟩ = false := (hg6.frozen_far ⟨z, 1, none⟩ HE.out.zl (fun e => nz e.symm)).trans (HE.out.fz 1)
            have HP : Hid (OB w (Y6.setCell ⟨z, 1, none⟩ (.slice (some ⟨g, 0, none⟩) (k + 1) cap)) br s j' z (.string code) [⟨2, 1, (.slice (some ⟨g, 0, none⟩) (k + 1) cap), (k + 1), (l ++ [x]).flatMap intC⟩, ⟨80, 3, .slice none 0 0, 0, []⟩, ⟨130, 4, .slice none 0 0, 0, []⟩] [.string { data := #[] }, .slice none 0 0, .slice none 0 0, .slice none 0 0]) := by
              have hp := HE.out.push (k := 0) rfl ho6 hg6 hat6 (by simp)
              have e : l.flatMap intC ++ intC x = (l ++ [x]).flatMap intC := by simp
              rw [e] at hp
              exact hp
            refine hK.out _ _ h60 (fun hHeld => ?_)
            clear hK K ho6 hg6 hat6 hlt6 HNC
            try simp only [Act.put, List.setIfInBounds_toArray, List.set_cons_zero, List.set_cons_succ]
            refine wpAnyH_take (i := 6) (v := ?_) (get1 (get1 (get1 (get1 (get1 (get1 (get0 _ _))))))) (by kernel_rfl) (by kernel_rfl) (by kernel_rfl) (fun _ _ _ h => h) (Or.inl ⟨by rfl, ?_⟩) (by assumption) ?_
            rotate_left
            · (intro w hSw; (try dsimp only at hSw); go_simp <;> with_reducible rfl)
            simp only [Act.put, List.setIfInBounds_toArray, List.set_cons_zero, List.set_cons_succ]
            refine wpAnyH_ready (rs := [7]) (by kernel_rfl) (by simp) ?_
            refine AllReadyH.cons (get1 (get1 (get1 (get1 (get1 (get1 (get1 (get0 _ _)))))))) (fun K hK => ?_) AllReadyH.nil
            go_simp
            refine hK.out _ _ HP.out.rd.c0 (fun hHeld => ?_)
            clear hK K
            try simp only [Act.put, List.setIfInBounds_toArray, List.set_cons_zero, List.set_cons_succ]
            refine wpAnyH_done (by kernel_rfl) ?_ _
            clear hHeld m6 z6 h60
            have HLN : Hid (rdMany rdLong (k + 1) s j3 = some (l ++ [x], j')) := by show _ = _; rw [rdMany, HL.out]; simp only [HX.out]
            go_wp2_with fail
            go_roundg (n3 - (k + 1))
            case measure => omega
            case rel => exact ⟨k + 1, _, _, _, by first | rfl | (congr 1; omega), by omega, Nat.le_refl _, HLN.out, HP.out⟩
          exact AllReadyH.nil
        exact AllReadyH.nil
      refine AllReadyH.cons (get1 (get1 (get1 (get0 _ _)))) (fun K hK => ?_) ?_
      · go_simp
        refine (rlong_any HD.out.rd).mono ?_
        rintro e y ⟨⟨x, j', hf, rfl, hr⟩ | ⟨hf, c, rfl⟩, hg⟩
        rotate_left
        · have HF : Hid (rdObj s = none) := by show _ = _; have hcut := many_cut HL.out hlt hf; simp only [rdObj, rdBody, hcot, if_true, Int.toNat_natCast, F0.out, F1.out, F2.out, F3.out, hcut]
          have HGG : Hid _ := grown_trans HD.out.g hg
          clear hf hg hK
          go_wp2
          exact ⟨rfl, .inr ⟨HF.out, c, rfl⟩, HGG.out⟩
        have HC : Hid (OB w y br s j' z (.string code) [⟨2, 1, v, k, l.flatMap intC⟩, ⟨80, 3, .slice none 0 0, 0, []⟩, ⟨130, 4, .slice none 0 0, 0, []⟩] [.string { data := #[] }, .slice none 0 0, .slice none 0 0, .slice none 0 0]) := HD.out.call hr hg
        have HX : Hid _ := hf
        clear hf hr hg
        try go_wp2_with fail
        refine hK.out _ _ HC.out.rd.c0 (fun hHeld => ?_)
        clear hK K
        try simp only [Act.put, List.setIfInBounds_toArray, List.set_cons_zero, List.set_cons_succ]
        refine wpAnyH_ready (rs := [1, 4]) (by kernel_rfl) (by simp) ?_
        refine AllReadyH.cons (get1 (get0 _ _)) (fun K hK => ?_) ?_
        · have m1 := HC.out.ck 0 _ rfl
          go_simp
          refine hK.out _ _ hHeld (fun hHeld => ?_)
          clear hK K m1
          try simp only [Act.put, List.setIfInBounds_toArray, List.set_cons_zero, List.set_cons_succ]
          refine wpAnyH_ready (rs := [4]) (by kernel_rfl) (by simp) ?_
          refine AllReadyH.cons (get1 (get1 (get1 (get1 (get0 _ _))))) (fun K hK => ?_) ?_
          · go_simp
            have HE : Hid (OB w (y.alloc (.cells #[.int .i64 x] 2)) br s j' z (.string code) [⟨2, 1, v, k, l.flatMap intC⟩, ⟨80, 3, .slice none 0 0, 0, []⟩, ⟨130, 4, .slice none 0 0, 0, []⟩] [.string { data := #[] }, .slice none 0 0, .slice none 0 0, .slice none 0 0]) := HC.out.below (bl_one _ _)
            refine hK.out _ _ HE.out.rd.c0 (fun hHeld => ?_)
            clear hK K
            try simp only [Act.put, List.setIfInBounds_toArray, List.set_cons_zero, List.set_cons_succ]
            refine wpAnyH_ready (rs := [5]) (by kernel_rfl) (by simp) ?_
            refine AllReadyH.cons (get1 (get1 (get1 (get1 (get1 (get0 _ _)))))) (fun K hK => ?_) AllReadyH.nil
            have HNC : Hid (∀ j u, (intC x)[j]? = some u → (y.alloc (.cells #[.int .i64 x] 2)).cell? ((⟨y.heap.size, 0, none⟩ : Addr).add j) = some u) := fun j u hu => by rw [Addr.add_lit, Nat.zero_add]; exact cell_last rfl (by simpa [intC] using hu)
            refine step_append_lies _ (by rfl) _ _ 22 (by rfl) (w.heap.size + 1) 2 i1 _ 1 8 Tryd.underlying22 hi1 hz10 hz11 hz12 (by rfl) (by decide) v k _ (by rfl) (HE.out.own 0 _ rfl).1 ⟨y.heap.size, 0, none⟩ 1 1 (intC x) (by rfl) (by rfl) HNC.out (by intro u hu; simp [intC] at hu; first | (rcases hu with rfl | rfl | rfl | rfl <;> rfl) | (rcases hu with rfl | rfl | rfl <;> rfl) | (subst hu; rfl)) (by decide) (by unfold maxLen; omega) (by omega) (by have := HE.out.zw; have := HE.out.zl; omega) (y.heap.size + 1) (by simp) ?_
            intro g cap Y6 ho6 hg6 hat6 hlt6
            have nbr : v.ownBlock ≠ some br := fun e => by have h1 := ((HE.out.own 0 _ rfl).1.lt _ e).1; have := HE.out.lt; omega
            have nz : v.ownBlock ≠ some z := (HE.out.own 0 _ rfl).2
            have h60 := (HE.out.rd.grown hg6 nbr).c0
            have m6 : Y6.cell? ⟨z, 1, none⟩ = some v := grown_row hg6 (HE.out.ck 0 _ rfl) nz
            have z6 : Y6.frozen? ⟨z, 1, none⟩ = false := (hg6.frozen_far ⟨z, 1, none⟩ HE.out.zl (fun e => nz e.symm)).trans (HE.out.fz 1)
            have HP : Hid (OB w (Y6.setCell ⟨z, 1, none⟩ (.slice (some ⟨g, 0, none⟩) (k + 1) cap)) br s j' z (.string code) [⟨2, 1, (.slice (some ⟨g, 0, none⟩) (k + 1) cap), (k + 1), (l ++ [x]).flatMap intC⟩, ⟨80, 3, .slice none 0 0, 0, []⟩, ⟨130, 4, .slice none 0 0, 0, []⟩] [.string { data := #[] }, .slice none 0 0, .slice none 0 0, .slice none 0 0]) := by
              have hp := HE.out.push (k := 0) rfl ho6 hg6 hat6 (by simp)
              have e : l.flatMap intC ++ intC x = (l ++ [x]).flatMap intC := by simp
              rw [e] at hp
              exact hp
            refine hK.out _ _ h60 (fun hHeld => ?_)
            clear hK K ho6 hg6 hat6 hlt6 HNC
            try simp only [Act.put, List.setIfInBounds_toArray, List.set_cons_zero, List.set_cons_succ]
            refine wpAnyH_take (i := 6) (v := ?_) (get1 (get1 (get1 (get1 (get1 (get1 (get0 _ _))))))) (by kernel_rfl) (by kernel_rfl) (by kernel_rfl) (fun _ _ _ h => h) (Or.inl ⟨by rfl, ?_⟩) (by assumption) ?_
            rotate_left
            · (intro w hSw; (try dsimp only at hSw); go_simp <;> with_reducible rfl)
            simp only [Act.put, List.setIfInBounds_toArray, List.set_cons_zero, List.set_cons_succ]
            refine wpAnyH_ready (rs := [7]) (by kernel_rfl) (by simp) ?_
            refine AllReadyH.cons (get1 (get1 (get1 (get1 (get1 (get1 (get1 (get0 _ _)))))))) (fun K hK => ?_) AllReadyH.nil
            go_simp
            refine hK.out _ _ HP.out.rd.c0 (fun hHeld => ?_)
            clear hK K
            try simp only [Act.put, List.setIfInBounds_toArray, List.set_cons_zero, List.set_cons_succ]
            refine wpAnyH_done (by kernel_rfl) ?_ _
            clear hHeld m6 z6 h60
            have HLN : Hid (rdMany rdLong (k + 1) s j3 = some (l ++ [x], j')) := by show _ = _; rw [rdMany, HL.out]; simp only [HX.out]
            go_wp2_with fail
            go_roundg (n3 - (k + 1))
            case measure => omega
            case rel => exact ⟨k + 1, _, _, _, by first | rfl | (congr 1; omega), by omega, Nat.le_refl _, HLN.out, HP.out⟩
          exact AllReadyH.nil
        refine AllReadyH.cons (get1 (get1 (get1 (get1 (get0 _ _))))) (fun K hK => ?_) ?_
        · go_simp
          have HE : Hid (OB w (y.alloc (.cells #[.int .i64 x] 2)) br s j' z (.string code) [⟨2, 1, v, k, l.flatMap intC⟩, ⟨80, 3, .slice none 0 0, 0, []⟩, ⟨130, 4, .slice none 0 0, 0, []⟩] [.string { data := #[] }, .slice none 0 0, .slice none 0 0, .slice none 0 0]) := HC.out.below (bl_one _ _)
          refine hK.out _ _ HE.out.rd.c0 (fun hHeld => ?_)
          clear hK K
          try simp only [Act.put, List.setIfInBounds_toArray, List.set_cons_zero, List.set_cons_succ]
          refine wpAnyH_ready (rs := [1]) (by kernel_rfl) (by simp) ?_
          refine AllReadyH.cons (get1 (get0 _ _)) (fun K hK => ?_) ?_
          · have m1 := HE.out.ck 0 _ rfl
            go_simp
            refine hK.out _ _ hHeld (fun hHeld => ?_)
            clear hK K m1
            try simp only [Act.put, List.setIfInBounds_toArray, List.set_cons_zero, List.set_cons_succ]
            refine wpAnyH_ready (rs := [5]) (by kernel_rfl) (by simp) ?_
            refine AllReadyH.cons (get1 (get1 (get1 (get1 (get1 (get0 _ _)))))) (fun K hK => ?_) AllReadyH.nil
            have HNC : Hid (∀ j u, (intC x)[j]? = some u → (y.alloc (.cells #[.int .i64 x] 2)).cell? ((⟨y.heap.size, 0, none⟩ : Addr).add j) = some u) := fun j u hu => by rw [Addr.add_lit, Nat.zero_add]; exact cell_last rfl (by simpa [intC] using hu)
            refine step_append_lies _ (by rfl) _ _ 22 (by rfl) (w.heap.size + 1) 2 i1 _ 1 8 Tryd.underlying22 hi1 hz10 hz11 hz12 (by rfl) (by decide) v k _ (by rfl) (HE.out.own 0 _ rfl).1 ⟨y.heap.size, 0, none⟩ 1 1 (intC x) (by rfl) (by rfl) HNC.out (by intro u hu; simp [intC] at hu; first | (rcases hu with rfl | rfl | rfl | rfl <;> rfl) | (rcases hu with rfl | rfl | rfl <;> rfl) | (subst hu; rfl)) (by decide) (by unfold maxLen; omega) (by omega) (by have := HE.out.zw; have := HE.out.zl; omega) (y.heap.size + 1) (by simp) ?_
            intro g cap Y6 ho6 hg6 hat6 hlt6
            have nbr : v.ownBlock ≠ some br := fun e => by have h1 := ((HE.out.own 0 _ rfl).1.lt _ e).1; have := HE.out.lt; omega
            have nz : v.ownBlock ≠ some z := (HE.out.own 0 _ rfl).2
            have h60 := (HE.out.rd.grown hg6 nbr).c0
            have m6 : Y6.cell? ⟨z, 1, none⟩ = some v := grown_row hg6 (HE.out.ck 0 _ rfl) nz
            have z6 : Y6.frozen? ⟨z, 1, none⟩ = false := (hg6.frozen_far ⟨z, 1, none⟩ HE.out.zl (fun e => nz e.symm)).trans (HE.out.fz 1)
            have HP : Hid (OB w (Y6.setCell ⟨z, 1, none⟩ (.slice (some ⟨g, 0, none⟩) (k + 1) cap)) br s j' z (.string code) [⟨2, 1, (.slice (some ⟨g, 0, none⟩) (k + 1) cap), (k + 1), (l ++ [x]).flatMap intC⟩, ⟨80, 3, .slice none 0 0, 0, []⟩, ⟨130, 4, .slice none 0 0, 0, []⟩] [.string { data := #[] }, .slice none 0 0, .slice none 0 0, .slice none 0 0]) := by
              have hp := HE.out.push (k := 0) rfl ho6 hg6 hat6 (by simp)
              have e : l.flatMap intC ++ intC x = (l ++ [x]).flatMap intC := by simp
              rw [e] at hp
              exact hp
            refine hK.out _ _ h60 (fun hHeld => ?_)
            clear hK K ho6 hg6 hat6 hlt6 HNC
            try simp only [Act.put, List.setIfInBounds_toArray, List.set_cons_zero, List.set_cons_succ]
            refine wpAnyH_take (i := 6) (v := ?_) (get1 (get1 (get1 (get1 (get1 (get1 (get0 _ _))))))) (by kernel_rfl) (by kernel_rfl) (by kernel_rfl) (fun _ _ _ h => h) (Or.inl ⟨by rfl, ?_⟩) (by assumption) ?_
            rotate_left
            · (intro w hSw; (try dsimp only at hSw); go_simp <;> with_reducible rfl)
            simp only [Act.put, List.setIfInBounds_toArray, List.set_cons_zero, List.set_cons_succ]
            refine wpAnyH_ready (rs := [7]) (by kernel_rfl) (by simp) ?_
            refine AllReadyH.cons (get1 (get1 (get1 (get1 (get1 (get1 (get1 (get0 _ _)))))))) (fun K hK => ?_) AllReadyH.nil
            go_simp
            refine hK.out _ _ HP.out.rd.c0 (fun hHeld => ?_)
            clear hK K
            try simp only [Act.put, List.setIfInBounds_toArray, List.set_cons_zero, List.set_cons_succ]
            refine wpAnyH_done (by kernel_rfl) ?_ _
            clear hHeld m6 z6 h60
            have HLN : Hid (rdMany rdLong (k + 1) s j3 = some (l ++ [x], j')) := by show _ = _; rw [rdMany, HL.out]; simp only [HX.out]
            go_wp2_with fail
            go_roundg (n3 - (k + 1))
            case measure => omega
            case rel => exact ⟨k + 1, _, _, _, by first | rfl | (congr 1; omega), by omega, Nat.le_refl _, HLN.out, HP.out⟩
          exact AllReadyH.nil
        exact AllReadyH.nil
      exact AllReadyH.nil
    · obtain rfl : n3 = k := by omega
      obtain ⟨data, rfl⟩ : ∃ xs, xs = l := ⟨_, rfl⟩
      obtain ⟨u1, rfl⟩ : ∃ x, x = v := ⟨_, rfl⟩
      obtain ⟨j4, rfl⟩ : ∃ x, x = j := ⟨_, rfl⟩
      have F4 : Hid _ := HL.out
      clear HL
      go_wp2_with fail
      refine (rup_any HB.out.rd 1000 (by decide)).mono ?_
      rintro e y ⟨⟨x, j5, hf, rfl, hr⟩ | ⟨hf, c, rfl⟩, hg⟩
      rotate_left
      · have HF : Hid (rdObj s = none) := by show _ = _; simp only [rdObj, rdBody, hcot, if_true, Int.toNat_natCast, F0.out, F1.out, F2.out, F3.out, F4.out, hf]
        have HGG : Hid _ := grown_trans HB.out.g hg
        clear hf hg
        go_wp2
        exact ⟨rfl, .inr ⟨HF.out, c, rfl⟩, HGG.out⟩
      obtain ⟨hx0, hx1⟩ := rdUp_nonneg hf
      obtain ⟨n5, rfl⟩ : ∃ n : Nat, x = n := ⟨x.toNat, by omega⟩
      have hn5 : n5 ≤ 1000 := by omega
      have F5 : Hid (rdUp s j4 1000 = some ((n5 : Int), j5)) := hf
      have HB : Hid _ := HB.out.call hr hg
      clear hf hr hg hx0 hx1
      go_wp2_with fail
      go_loopg [27] n5 (fun r iv wq => ∃ (k : Nat) (l : List Sym) (j : Nat) (v : Value), iv = .int .i64 k ∧ k ≤ n5 ∧ n5 - k ≤ r ∧ Hid (rdMany rdSym k s j5 = some (l, j)) ∧ Hid (OB w wq br s j z (.string code) [⟨2, 1, u1, n3, data.flatMap intC⟩, ⟨80, 3, v, k, l.flatMap symC⟩, ⟨130, 4, .slice none 0 0, 0, []⟩] [.string { data := #[] }, .slice none 0 0, .slice none 0 0, .slice none 0 0]))
      case atStart => exact ⟨0, [], j5, _, rfl, Nat.zero_le _, by omega, (rfl : rdMany rdSym 0 s j5 = some ([], j5)), HB.out⟩
      case round =>
        obtain ⟨k, l, j, v, rfl, hk, hr, HL, HB⟩ := hrel
        by_cases hlt : k < n5
        · have hii : (k : Int) < n5 := by omega
          have hin : 0 ≤ (k : Int) := by omega
          go_wp2_with fail
          have HD : Hid (OB w wr.drew br s j z (.string code) [⟨2, 1, u1, n3, data.flatMap intC⟩, ⟨80, 3, v, k, l.flatMap symC⟩, ⟨130, 4, .slice none 0 0, 0, []⟩] [.string { data := #[] }, .slice none 0 0, .slice none 0 0, .slice none 0 0]) := HB.out.drew
          refine wp_region_held_drew (S := (fun w' : World => w'.cell? ⟨br, 0, none⟩ = some (.string s))) (by kernel_rfl) HD.out.rd.c0 (fun hHeld => ?_)
          refine wpAnyH_take (i := 0) (v := ?_) (get0 _ _) (by kernel_rfl) (by kernel_rfl) (by kernel_rfl) (fun _ _ _ h => h) (Or.inl ⟨by rfl, ?_⟩) (by assumption) ?_
          rotate_left
          · (intro w hSw; (try dsimp only at hSw); go_simp <;> with_reducible rfl)
          simp only [Act.put, List.setIfInBounds_toArray, List.set_cons_zero, List.set_cons_succ]
          refine wpAnyH_take (i := 2) (v := ?_) (get1 (get1 (get0 _ _))) (by kernel_rfl) (by kernel_rfl) (by kernel_rfl) (fun _ _ _ h => h) (Or.inl ⟨by rfl, ?_⟩) (by assumption) ?_
          rotate_left
          · (intro w hSw; (try dsimp only at hSw); go_simp <;> with_reducible rfl)
          simp only [Act.put, List.setIfInBounds_toArray, List.set_cons_zero, List.set_cons_succ]
          refine wpAnyH_ready (rs := [1, 3]) (by kernel_rfl) (by simp) ?_
          refine AllReadyH.cons (get1 (get0 _ _)) (fun K hK => ?_) ?_
          · have m1 := HD.out.ck 1 _ rfl
            go_simp
            refine hK.out _ _ hHeld (fun hHeld => ?_)
            clear hK K m1
            try simp only [Act.put, List.setIfInBounds_toArray, List.set_cons_zero, List.set_cons_succ]
            refine wpAnyH_ready (rs := [3]) (by kernel_rfl) (by simp) ?_
            refine AllReadyH.cons (get1 (get1 (get1 (get0 _ _)))) (fun K hK => ?_) ?_
            · go_simp
              refine (rsym_any HD.out.rd).mono ?_
              rintro e y ⟨⟨x, j', hf, rfl, hr⟩ | ⟨hf, c, rfl⟩, hg⟩
              rotate_left
              · have HF : Hid (rdObj s = none) := by show _ = _; have hcut := many_cut HL.out hlt hf; simp only [rdObj, rdBody, hcot, if_true, Int.toNat_natCast, F0.out, F1.out, F2.out, F3.out, F4.out, F5.out, hcut]
                have HGG : Hid _ := grown_trans HD.out.g hg
                clear hf hg hK
                go_wp2
                exact ⟨rfl, .inr ⟨HF.out, c, rfl⟩, HGG.out⟩
              obtain ⟨xn, xk, xp⟩ := x
              simp only [symV]
              have HC : Hid (OB w y br s j' z (.string code) [⟨2, 1, u1, n3, data.flatMap intC⟩, ⟨80, 3, v, k, l.flatMap symC⟩, ⟨130, 4, .slice none 0 0, 0, []⟩] [.string { data := #[] }, .slice none 0 0, .slice none 0 0, .slice none 0 0]) := HD.out.call hr hg
              have HX : Hid _ := hf
              clear hf hr hg
              try go_wp2_with fail
              refine hK.out _ _ HC.out.rd.c0 (fun hHeld => ?_)
              clear hK K
              try simp only [Act.put, List.setIfInBounds_toArray, List.set_cons_zero, List.set_cons_succ]
              refine wpAnyH_ready (rs := [4]) (by kernel_rfl) (by simp) ?_
              refine AllReadyH.cons (get1 (get1 (get1 (get1 (get0 _ _))))) (fun K hK => ?_) ?_
              · go_simp
                have HE : Hid (OB w (y.alloc (.cells #[.string xn, .int .i64 xk, .int .i64 xp] 80)) br s j' z (.string code) [⟨2, 1, u1, n3, data.flatMap intC⟩, ⟨80, 3, v, k, l.flatMap symC⟩, ⟨130, 4, .slice none 0 0, 0, []⟩] [.string { data := #[] }, .slice none 0 0, .slice none 0 0, .slice none 0 0]) := HC.out.below (bl_one _ _)
                refine hK.out _ _ HE.out.rd.c0 (fun hHeld => ?_)
                clear hK K
                try simp only [Act.put, List.setIfInBounds_toArray, List.set_cons_zero, List.set_cons_succ]
                refine wpAnyH_ready (rs := [5]) (by kernel_rfl) (by simp) ?_
                refine AllReadyH.cons (get1 (get1 (get1 (get1 (get1 (get0 _ _)))))) (fun K hK => ?_) AllReadyH.nil
                have HNC : Hid (∀ j u, (symC (⟨xn, xk, xp⟩ : Sym))[j]? = some u → (y.alloc (.cells #[.string xn, .int .i64 xk, .int .i64 xp] 80)).cell? ((⟨y.heap.size, 0, none⟩ : Addr).add j) = some u) := fun j u hu => by rw [Addr.add_lit, Nat.zero_add]; exact cell_last rfl (by simpa [symC] using hu)
                refine step_append_lies _ (by rfl) _ _ 23 (by rfl) (w.heap.size + 1) 80 i2 _ 3 32 Tryd.underlying23 hi2 hz20 hz21 hz22 (by rfl) (by decide) v k _ (by rfl) (HE.out.own 1 _ rfl).1 ⟨y.heap.size, 0, none⟩ 1 1 (symC (⟨xn, xk, xp⟩ : Sym)) (by rfl) (by rfl) HNC.out (by intro u hu; simp [symC] at hu; first | (rcases hu with rfl | rfl | rfl | rfl <;> rfl) | (rcases hu with rfl | rfl | rfl <;> rfl) | (subst hu; rfl)) (by decide) (by unfold maxLen; omega) (by omega) (by have := HE.out.zw; have := HE.out.zl; omega) (y.heap.size + 1) (by simp) ?_
                intro g cap Y6 ho6 hg6 hat6 hlt6
                have nbr : v.ownBlock ≠ some br := fun e => by have h1 := ((HE.out.own 1 _ rfl).1.lt _ e).1; have := HE.out.lt; omega
                have nz : v.ownBlock ≠ some z := (HE.out.own 1 _ rfl).2
                have h60 := (HE.out.rd.grown hg6 nbr).c0
                have m6 : Y6.cell? ⟨z, 2, none⟩ = some v := grown_row hg6 (HE.out.ck 1 _ rfl) nz
                have z6 : Y6.frozen? ⟨z, 2, none⟩ = false := (hg6.frozen_far ⟨z, 2, none⟩ HE.out.zl (fun e => nz e.symm)).trans (HE.out.fz 2)
                have HP : Hid (OB w (Y6.setCell ⟨z, 2, none⟩ (.slice (some ⟨g, 0, none⟩) (k + 1) cap)) br s j' z (.string code) [⟨2, 1, u1, n3, data.flatMap intC⟩, ⟨80, 3, (.slice (some ⟨g, 0, none⟩) (k + 1) cap), (k + 1), (l ++ [(⟨xn, xk, xp⟩ : Sym)]).flatMap symC⟩, ⟨130, 4, .slice none 0 0, 0, []⟩] [.string { data := #[] }, .slice none 0 0, .slice none 0 0, .slice none 0 0]) := by
                  have hp := HE.out.push (k := 1) rfl ho6 hg6 hat6 (by simp)
                  have e : l.flatMap symC ++ symC (⟨xn, xk, xp⟩ : Sym) = (l ++ [(⟨xn, xk, xp⟩ : Sym)]).flatMap symC := by simp
                  rw [e] at hp
                  exact hp
                refine hK.out _ _ h60 (fun hHeld => ?_)
                clear hK K ho6 hg6 hat6 hlt6 HNC
                try simp only [Act.put, List.setIfInBounds_toArray, List.set_cons_zero, List.set_cons_succ]
                refine wpAnyH_take (i := 6) (v := ?_) (get1 (get1 (get1 (get1 (get1 (get1 (get0 _ _))))))) (by kernel_rfl) (by kernel_rfl) (by kernel_rfl) (fun _ _ _ h => h) (Or.inl ⟨by rfl, ?_⟩) (by assumption) ?_
                rotate_left
                · (intro w hSw; (try dsimp only at hSw); go_simp <;> with_reducible rfl)
                simp only [Act.put, List.setIfInBounds_toArray, List.set_cons_zero, List.set_cons_succ]
                refine wpAnyH_ready (rs := [7]) (by kernel_rfl) (by simp) ?_
                refine AllReadyH.cons (get1 (get1 (get1 (get1 (get1 (get1 (get1 (get0 _ _)))))))) (fun K hK => ?_) AllReadyH.nil
                go_simp
                refine hK.out _ _ HP.out.rd.c0 (fun hHeld => ?_)
                clear hK K
                try simp only [Act.put, List.setIfInBounds_toArray, List.set_cons_zero, List.set_cons_succ]
                refine wpAnyH_done (by kernel_rfl) ?_ _
                clear hHeld m6 z6 h60
                have HLN : Hid (rdMany rdSym (k + 1) s j5 = some (l ++ [(⟨xn, xk, xp⟩ : Sym)], j')) := by show _ = _; rw [rdMany, HL.out]; simp only [HX.out]
                go_wp2_with fail
                go_roundg (n5 - (k + 1))
                case measure => omega
                case rel => exact ⟨k + 1, _, _, _, by first | rfl | (congr 1; omega), by omega, Nat.le_refl _, HLN.out, HP.out⟩
              exact AllReadyH.nil
            exact AllReadyH.nil
          refine AllReadyH.cons (get1 (get1 (get1 (get0 _ _)))) (fun K hK => ?_) ?_
          · go_simp
            refine (rsym_any HD.out.rd).mono ?_
            rintro e y ⟨⟨x, j', hf, rfl, hr⟩ | ⟨hf, c, rfl⟩, hg⟩
            rotate_left
            · have HF : Hid (rdObj s = none) := by show _ = _; have hcut := many_cut HL.out hlt hf; simp only [rdObj, rdBody, hcot, if_true, Int.toNat_natCast, F0.out, F1.out, F2.out, F3.out, F4.out, F5.out, hcut]
              have HGG : Hid _ := grown_trans HD.out.g hg
              clear hf hg hK
              go_wp2
              exact ⟨rfl, .inr ⟨HF.out, c, rfl⟩, HGG.out⟩
            obtain ⟨xn, xk, xp⟩ := x
            simp only [symV]
            have HC : Hid (OB w y br s j' z (.string code) [⟨2, 1, u1, n3, data.flatMap intC⟩, ⟨80, 3, v, k, l.flatMap symC⟩, ⟨130, 4, .slice none 0 0, 0, []⟩] [.string { data := #[] }, .slice none 0 0, .slice none 0 0, .slice none 0 0]) := HD.out.call hr hg
            have HX : Hid _ := hf
            clear hf hr hg
            try go_wp2_with fail
            refine hK.out _ _ HC.out.rd.c0 (fun hHeld => ?_)
            clear hK K
            try simp only [Act.put, List.setIfInBounds_toArray, List.set_cons_zero, List.set_cons_succ]
            refine wpAnyH_ready (rs := [1, 4]) (by kernel_rfl) (by simp) ?_
            refine AllReadyH.cons (get1 (get0 _ _)) (fun K hK => ?_) ?_
            · have m1 := HC.out.ck 1 _ rfl
              go_simp
              refine hK.out _ _ hHeld (fun hHeld => ?_)
              clear hK K m1
              try simp only [Act.put, List.setIfInBounds_toArray, List.set_cons_zero, List.set_cons_succ]
              refine wpAnyH_ready (rs := [4]) (by kernel_rfl) (by simp) ?_
              refine AllReadyH.cons (get1 (get1 (get1 (get1 (get0 _ _))))) (fun K hK => ?_) ?_
              · go_simp
                have HE : Hid (OB w (y.alloc (.cells #[.string xn, .int .i64 xk, .int .i64 xp] 80)) br s j' z (.string code) [⟨2, 1, u1, n3, data.flatMap intC⟩, ⟨80, 3, v, k, l.flatMap symC⟩, ⟨130, 4, .slice none 0 0, 0, []⟩] [.string { data := #[] }, .slice none 0 0, .slice none 0 0, .slice none 0 0]) := HC.out.below (bl_one _ _)
                refine hK.out _ _ HE.out.rd.c0 (fun hHeld => ?_)
                clear hK K
                try simp only [Act.put, List.setIfInBounds_toArray, List.set_cons_zero, List.set_cons_succ]
                refine wpAnyH_ready (rs := [5]) (by kernel_rfl) (by simp) ?_
                refine AllReadyH.cons (get1 (get1 (get1 (get1 (get1 (get0 _ _)))))) (fun K hK => ?_) AllReadyH.nil
                have HNC : Hid (∀ j u, (symC (⟨xn, xk, xp⟩ : Sym))[j]? = some u → (y.alloc (.cells #[.string xn, .int .i64 xk, .int .i64 xp] 80)).cell? ((⟨y.heap.size, 0, none⟩ : Addr).add j) = some u) := fun j u hu => by rw [Addr.add_lit, Nat.zero_add]; exact cell_last rfl (by simpa [symC] using hu)
                refine step_append_lies _ (by rfl) _ _ 23 (by rfl) (w.heap.size + 1) 80 i2 _ 3 32 Tryd.underlying23 hi2 hz20 hz21 hz22 (by rfl) (by decide) v k _ (by rfl) (HE.out.own 1 _ rfl).1 ⟨y.heap.size, 0, none⟩ 1 1 (symC (⟨xn, xk, xp⟩ : Sym)) (by rfl) (by rfl) HNC.out (by intro u hu; simp [symC] at hu; first | (rcases hu with rfl | rfl | rfl | rfl <;> rfl) | (rcases hu with rfl | rfl | rfl <;> rfl) | (subst hu; rfl)) (by decide) (by unfold maxLen; omega) (by omega) (by have := HE.out.zw; have := HE.out.zl; omega) (y.heap.size + 1) (by simp) ?_
                intro g cap Y6 ho6 hg6 hat6 hlt6
                have nbr : v.ownBlock ≠ some br := fun e => by have h1 := ((HE.out.own 1 _ rfl).1.lt _ e).1; have := HE.out.lt; omega
                have nz : v.ownBlock ≠ some z := (HE.out.own 1 _ rfl).2
                have h60 := (HE.out.rd.grown hg6 nbr).c0
                have m6 : Y6.cell? ⟨z, 2, none⟩ = some v := grown_row hg6 (HE.out.ck 1 _ rfl) nz
                have z6 : Y6.frozen? ⟨z, 2, none⟩ = false := (hg6.frozen_far ⟨z, 2, none⟩ HE.out.zl (fun e => nz e.symm)).trans (HE.out.fz 2)
                have HP : Hid (OB w (Y6.setCell ⟨z, 2, none⟩ (.slice (some ⟨g, 0, none⟩) (k + 1) cap)) br s j' z (.string code) [⟨2, 1, u1, n3, data.flatMap intC⟩, ⟨80, 3, (.slice (some ⟨g, 0, none⟩) (k + 1) cap), (k + 1), (l ++ [(⟨xn, xk, xp⟩ : Sym)]).flatMap symC⟩, ⟨130, 4, .slice none 0 0, 0, []⟩] [.string { data := #[] }, .slice none 0 0, .slice none 0 0, .slice none 0 0]) := by
                  have hp := HE.out.push (k := 1) rfl ho6 hg6 hat6 (by simp)
                  have e : l.flatMap symC ++ symC (⟨xn, xk, xp⟩ : Sym) = (l ++ [(⟨xn, xk, xp⟩ : Sym)]).flatMap symC := by simp
                  rw [e] at hp
                  exact hp
                refine hK.out _ _ h60 (fun hHeld => ?_)
                clear hK K ho6 hg6 hat6 hlt6 HNC
                try simp only [Act.put, List.setIfInBounds_toArray, List.set_cons_zero, List.set_cons_succ]
                refine wpAnyH_take (i := 6) (v := ?_) (get1 (get1 (get1 (get1 (get1 (get1 (get0 _ _))))))) (by kernel_rfl) (by kernel_rfl) (by kernel_rfl) (fun _ _ _ h => h) (Or.inl ⟨by rfl, ?_⟩) (by assumption) ?_
                rotate_left
                · (intro w hSw; (try dsimp only at hSw); go_simp <;> with_reducible rfl)
                simp only [Act.put, List.setIfInBounds_toArray, List.set_cons_zero, List.set_cons_succ]
                refine wpAnyH_ready (rs := [7]) (by kernel_rfl) (by simp) ?_
                refine AllReadyH.cons (get1 (get1 (get1 (get1 (get1 (get1 (get1 (get0 _ _)))))))) (fun K hK => ?_) AllReadyH.nil
                go_simp
                refine hK.out _ _ HP.out.rd.c0 (fun hHeld => ?_)
                clear hK K
                try simp only [Act.put, List.setIfInBounds_toArray, List.set_cons_zero, List.set_cons_succ]
                refine wpAnyH_done (by kernel_rfl) ?_ _
                clear hHeld m6 z6 h60
                have HLN : Hid (rdMany rdSym (k + 1) s j5 = some (l ++ [(⟨xn, xk, xp⟩ : Sym)], j')) := by show _ = _; rw [rdMany, HL.out]; simp only [HX.out]
                go_wp2_with fail
                go_roundg (n5 - (k + 1))
                case measure => omega
                case rel => exact ⟨k + 1, _, _, _, by first | rfl | (congr 1; omega), by omega, Nat.le_refl _, HLN.out, HP.out⟩
              exact AllReadyH.nil
            refine AllReadyH.cons (get1 (get1 (get1 (get1 (get0 _ _))))) (fun K hK => ?_) ?_
            · go_simp
              have HE : Hid (OB w (y.alloc (.cells #[.string xn, .int .i64 xk, .int .i64 xp] 80)) br s j' z (.string code) [⟨2, 1, u1, n3, data.flatMap intC⟩, ⟨80, 3, v, k, l.flatMap symC⟩, ⟨130, 4, .slice none 0 0, 0, []⟩] [.string { data := #[] }, .slice none 0 0, .slice none 0 0, .slice none 0 0]) := HC.out.below (bl_one _ _)
              refine hK.out _ _ HE.out.rd.c0 (fun hHeld => ?_)
              clear hK K
              try simp only [Act.put, List.setIfInBounds_toArray, List.set_cons_zero, List.set_cons_succ]
              refine wpAnyH_ready (rs := [1]) (by kernel_rfl) (by simp) ?_
              refine AllReadyH.cons (get1 (get0 _ _)) (fun K hK => ?_) ?_
              · have m1 := HE.out.ck 1 _ rfl
                go_simp
                refine hK.out _ _ hHeld (fun hHeld => ?_)
                clear hK K m1
                try simp only [Act.put, List.setIfInBounds_toArray, List.set_cons_zero, List.set_cons_succ]
                refine wpAnyH_ready (rs := [5]) (by kernel_rfl) (by simp) ?_
                refine AllReadyH.cons (get1 (get1 (get1 (get1 (get1 (get0 _ _)))))) (fun K hK => ?_) AllReadyH.nil
                have HNC : Hid (∀ j u, (symC (⟨xn, xk, xp⟩ : Sym))[j]? = some u → (y.alloc (.cells #[.string xn, .int .i64 xk, .int .i64 xp] 80)).cell? ((⟨y.heap.size, 0, none⟩ : Addr).add j) = some u) := fun j u hu => by rw [Addr.add_lit, Nat.zero_add]; exact cell_last rfl (by simpa [symC] using hu)
                refine step_append_lies _ (by rfl) _ _ 23 (by rfl) (w.heap.size + 1) 80 i2 _ 3 32 Tryd.underlying23 hi2 hz20 hz21 hz22 (by rfl) (by decide) v k _ (by rfl) (HE.out.own 1 _ rfl).1 ⟨y.heap.size, 0, none⟩ 1 1 (symC (⟨xn, xk, xp⟩ : Sym)) (by rfl) (by rfl) HNC.out (by intro u hu; simp [symC] at hu; first | (rcases hu with rfl | rfl | rfl | rfl <;> rfl) | (rcases hu with rfl | rfl | rfl <;> rfl) | (subst hu; rfl)) (by decide) (by unfold maxLen; omega) (by omega) (by have := HE.out.zw; have := HE.out.zl; omega) (y.heap.size + 1) (by simp) ?_
                intro g cap Y6 ho6 hg6 hat6 hlt6
                have nbr : v.ownBlock ≠ some br := fun e => by have h1 := ((HE.out.own 1 _ rfl).1.lt _ e).1; have := HE.out.lt; omega
                have nz : v.ownBlock ≠ some z := (HE.out.own 1 _ rfl).2
                have h60 := (HE.out.rd.grown hg6 nbr).c0
                have m6 : Y6.cell? ⟨z, 2, none⟩ = some v := grown_row hg6 (HE.out.ck 1 _ rfl) nz
                have z6 : Y6.frozen? ⟨z, 2, none⟩ = false := (hg6.frozen_far ⟨z, 2, none⟩ HE.out.zl (fun e => nz e.symm)).trans (HE.out.fz 2)
                have HP : Hid (OB w (Y6.setCell ⟨z, 2, none⟩ (.slice (some ⟨g, 0, none⟩) (k + 1) cap)) br s j' z (.string code) [⟨2, 1, u1, n3, data.flatMap intC⟩, ⟨80, 3, (.slice (some ⟨g, 0, none⟩) (k + 1) cap), (k + 1), (l ++ [(⟨xn, xk, xp⟩ : Sym)]).flatMap symC⟩, ⟨130, 4, .slice none 0 0, 0, []⟩] [.string { data := #[] }, .slice none 0 0, .slice none 0 0, .slice none 0 0]) := by
                  have hp := HE.out.push (k := 1) rfl ho6 hg6 hat6 (by simp)
                  have e : l.flatMap symC ++ symC (⟨xn, xk, xp⟩ : Sym) = (l ++ [(⟨xn, xk, xp⟩ : Sym)]).flatMap symC := by simp
                  rw [e] at hp
                  exact hp
                refine hK.out _ _ h60 (fun hHeld => ?_)
                clear hK K ho6 hg6 hat6 hlt6 HNC
                try simp only [Act.put, List.setIfInBounds_toArray, List.set_cons_zero, List.set_cons_succ]
                refine wpAnyH_take (i := 6) (v := ?_) (get1 (get1 (get1 (get1 (get1 (get1 (get0 _ _))))))) (by kernel_rfl) (by kernel_rfl) (by kernel_rfl) (fun _ _ _ h => h) (Or.inl ⟨by rfl, ?_⟩) (by assumption) ?_
                rotate_left
                · (intro w hSw; (try dsimp only at hSw); go_simp <;> with_reducible rfl)
                simp only [Act.put, List.setIfInBounds_toArray, List.set_cons_zero, List.set_cons_succ]
                refine wpAnyH_ready (rs := [7]) (by kernel_rfl) (by simp) ?_
                refine AllReadyH.cons (get1 (get1 (get1 (get1 (get1 (get1 (get1 (get0 _ _)))))))) (fun K hK => ?_) AllReadyH.nil
                go_simp
                refine hK.out _ _ HP.out.rd.c0 (fun hHeld => ?_)
                clear hK K
                try simp only [Act.put, List.setIfInBounds_toArray, List.set_cons_zero, List.set_cons_succ]
                refine wpAnyH_done (by kernel_rfl) ?_ _
                clear hHeld m6 z6 h60
                have HLN : Hid (rdMany rdSym (k + 1) s j5 = some (l ++ [(⟨xn, xk, xp⟩ : Sym)], j')) := by show _ = _; rw [rdMany, HL.out]; simp only [HX.out]
                go_wp2_with fail
                go_roundg (n5 - (k + 1))
                case measure => omega
                case rel => exact ⟨k + 1, _, _, _, by first | rfl | (congr 1; omega), by omega, Nat.le_refl _, HLN.out, HP.out⟩
              exact AllReadyH.nil
            exact AllReadyH.nil
          exact AllReadyH.nil
        · obtain rfl : n5 = k := by omega
          obtain ⟨syms, rfl⟩ : ∃ xs, xs = l := ⟨_, rfl⟩
          obtain ⟨u2, rfl⟩ : ∃ x, x = v := ⟨_, rfl⟩
          obtain ⟨j6, rfl⟩ : ∃ x, x = j := ⟨_, rfl⟩
          have F6 : Hid _ := HL.out
          clear HL
          go_wp2_with fail
          refine (rup_any HB.out.rd 8000 (by decide)).mono ?_
          rintro e y ⟨⟨x, j7, hf, rfl, hr⟩ | ⟨hf, c, rfl⟩, hg⟩
          rotate_left
          · have HF : Hid (rdObj s = none) := by show _ = _; simp only [rdObj, rdBody, hcot, if_true, Int.toNat_natCast, F0.out, F1.out, F2.out, F3.out, F4.out, F5.out, F6.out, hf]
            have HGG : Hid _ := grown_trans HB.out.g hg
            clear hf hg
            go_wp2
            exact ⟨rfl, .inr ⟨HF.out, c, rfl⟩, HGG.out⟩
          obtain ⟨hx0, hx1⟩ := rdUp_nonneg hf
          obtain ⟨n7, rfl⟩ : ∃ n : Nat, x = n := ⟨x.toNat, by omega⟩
          have hn7 : n7 ≤ 8000 := by omega
          have F7 : Hid (rdUp s j6 8000 = some ((n7 : Int), j7)) := hf
          have HB : Hid _ := HB.out.call hr hg
          clear hf hr hg hx0 hx1
          go_wp2_with fail
          go_loopg [39] n7 (fun r iv wq => ∃ (k : Nat) (l : List Rel) (j : Nat) (v : Value), iv = .int .i64 k ∧ k ≤ n7 ∧ n7 - k ≤ r ∧ Hid (rdMany rdRel k s j7 = some (l, j)) ∧ Hid (OB w wq br s j z (.string code) [⟨2, 1, u1, n3, data.flatMap intC⟩, ⟨80, 3, u2, n5, syms.flatMap symC⟩, ⟨130, 4, v, k, l.flatMap relC⟩] [.string { data := #[] }, .slice none 0 0, .slice none 0 0, .slice none 0 0]))
          case atStart => exact ⟨0, [], j7, _, rfl, Nat.zero_le _, by omega, (rfl : rdMany rdRel 0 s j7 = some ([], j7)), HB.out⟩
          case round =>
            obtain ⟨k, l, j, v, rfl, hk, hr, HL, HB⟩ := hrel
            by_cases hlt : k < n7
            · have hii : (k : Int) < n7 := by omega
              have hin : 0 ≤ (k : Int) := by omega
              go_wp2_with fail
              have HD : Hid (OB w wr.drew br s j z (.string code) [⟨2, 1, u1, n3, data.flatMap intC⟩, ⟨80, 3, u2, n5, syms.flatMap symC⟩, ⟨130, 4, v, k, l.flatMap relC⟩] [.string { data := #[] }, .slice none 0 0, .slice none 0 0, .slice none 0 0]) := HB.out.drew
              refine wp_region_held_drew (S := (fun w' : World => w'.cell? ⟨br, 0, none⟩ = some (.string s))) (by kernel_rfl) HD.out.rd.c0 (fun hHeld => ?_)
              refine wpAnyH_take (i := 0) (v := ?_) (get0 _ _) (by kernel_rfl) (by kernel_rfl) (by kernel_rfl) (fun _ _ _ h => h) (Or.inl ⟨by rfl, ?_⟩) (by assumption) ?_
              rotate_left
              · (intro w hSw; (try dsimp only at hSw); go_simp <;> with_reducible rfl)
              simp only [Act.put, List.setIfInBounds_toArray, List.set_cons_zero, List.set_cons_succ]
              refine wpAnyH_take (i := 2) (v := ?_) (get1 (get1 (get0 _ _))) (by kernel_rfl) (by kernel_rfl) (by kernel_rfl) (fun _ _ _ h => h) (Or.inl ⟨by rfl, ?_⟩) (by assumption) ?_
              rotate_left
              · (intro w hSw; (try dsimp only at hSw); go_simp <;> with_reducible rfl)
              simp only [Act.put, List.setIfInBounds_toArray, List.set_cons_zero, List.set_cons_succ]
              refine wpAnyH_ready (rs := [1, 3]) (by kernel_rfl) (by simp) ?_
              refine AllReadyH.cons (get1 (get0 _ _)) (fun K hK => ?_) ?_
              · have m1 := HD.out.ck 2 _ rfl
                go_simp
                refine hK.out _ _ hHeld (fun hHeld => ?_)
                clear hK K m1
                try simp only [Act.put, List.setIfInBounds_toArray, List.set_cons_zero, List.set_cons_succ]
                refine wpAnyH_ready (rs := [3]) (by kernel_rfl) (by simp) ?_
                refine AllReadyH.cons (get1 (get1 (get1 (get0 _ _)))) (fun K hK => ?_) ?_
                · go_simp
                  refine (rrel_any HD.out.rd).mono ?_
                  rintro e y ⟨⟨x, j', hf, rfl, hr⟩ | ⟨hf, c, rfl⟩, hg⟩
                  rotate_left
                  · have HF : Hid (rdObj s = none) := by show _ = _; have hcut := many_cut HL.out hlt hf; simp only [rdObj, rdBody, hcot, if_true, Int.toNat_natCast, F0.out, F1.out, F2.out, F3.out, F4.out, F5.out, F6.out, F7.out, hcut]
                    have HGG : Hid _ := grown_trans HD.out.g hg
                    clear hf hg hK
                    go_wp2
                    exact ⟨rfl, .inr ⟨HF.out, c, rfl⟩, HGG.out⟩
                  obtain ⟨xp, xk, xn, xa⟩ := x
                  simp only [relV]
                  have HC : Hid (OB w y br s j' z (.string code) [⟨2, 1, u1, n3, data.flatMap intC⟩, ⟨80, 3, u2, n5, syms.flatMap symC⟩, ⟨130, 4, v, k, l.flatMap relC⟩] [.string { data := #[] }, .slice none 0 0, .slice none 0 0, .slice none 0 0]) := HD.out.call hr hg
                  have HX : Hid _ := hf
                  clear hf hr hg
                  try go_wp2_with fail
                  refine hK.out _ _ HC.out.rd.c0 (fun hHeld => ?_)
                  clear hK K
                  try simp only [Act.put, List.setIfInBounds_toArray, List.set_cons_zero, List.set_cons_succ]
                  refine wpAnyH_ready (rs := [4]) (by kernel_rfl) (by simp) ?_
                  refine AllReadyH.cons (get1 (get1 (get1 (get1 (get0 _ _))))) (fun K hK => ?_) ?_
                  · go_simp
                    have HE : Hid (OB w (y.alloc (.cells #[.int .i64 xp, .int .i64 xk, .string xn, .int .i64 xa] 130)) br s j' z (.string code) [⟨2, 1, u1, n3, data.flatMap intC⟩, ⟨80, 3, u2, n5, syms.flatMap symC⟩, ⟨130, 4, v, k, l.flatMap relC⟩] [.string { data := #[] }, .slice none 0 0, .slice none 0 0, .slice none 0 0]) := HC.out.below (bl_one _ _)
                    refine hK.out _ _ HE.out.rd.c0 (fun hHeld => ?_)
                    clear hK K
                    try simp only [Act.put, List.setIfInBounds_toArray, List.set_cons_zero, List.set_cons_succ]
                    refine wpAnyH_ready (rs := [5]) (by kernel_rfl) (by simp) ?_
                    refine AllReadyH.cons (get1 (get1 (get1 (get1 (get1 (get0 _ _)))))) (fun K hK => ?_) AllReadyH.nil
                    have HNC : Hid (∀ j u, (relC (⟨xp, xk, xn, xa⟩ : Rel))[j]? = some u → (y.alloc (.cells #[.int .i64 xp, .int .i64 xk, .string xn, .int .i64 xa] 130)).cell? ((⟨y.heap.size, 0, none⟩ : Addr).add j) = some u) := fun j u hu => by rw [Addr.add_lit, Nat.zero_add]; exact cell_last rfl (by simpa [relC] using hu)
                    refine step_append_lies _ (by rfl) _ _ 65 (by rfl) (w.heap.size + 1) 130 i3 _ 4 40 Tryd.underlying65 hi3 hz30 hz31 hz32 (by rfl) (by decide) v k _ (by rfl) (HE.out.own 2 _ rfl).1 ⟨y.heap.size, 0, none⟩ 1 1 (relC (⟨xp, xk, xn, xa⟩ : Rel)) (by rfl) (by rfl) HNC.out (by intro u hu; simp [relC] at hu; first | (rcases hu with rfl | rfl | rfl | rfl <;> rfl) | (rcases hu with rfl | rfl | rfl <;> rfl) | (subst hu; rfl)) (by decide) (by unfold maxLen; omega) (by omega) (by have := HE.out.zw; have := HE.out.zl; omega) (y.heap.size + 1) (by simp) ?_
                    intro g cap Y6 ho6 hg6 hat6 hlt6
                    have nbr : v.ownBlock ≠ some br := fun e => by have h1 := ((HE.out.own 2 _ rfl).1.lt _ e).1; have := HE.out.lt; omega
                    have nz : v.ownBlock ≠ some z := (HE.out.own 2 _ rfl).2
                    have h60 := (HE.out.rd.grown hg6 nbr).c0
                    have m6 : Y6.cell? ⟨z, 3, none⟩ = some v := grown_row hg6 (HE.out.ck 2 _ rfl) nz
                    have z6 : Y6.frozen? ⟨z, 3, none⟩ = false := (hg6.frozen_far ⟨z, 3, none⟩ HE.out.zl (fun e => nz e.symm)).trans (HE.out.fz 3)
                    have HP : Hid (OB w (Y6.setCell ⟨z, 3, none⟩ (.slice (some ⟨g, 0, none⟩) (k + 1) cap)) br s j' z (.string code) [⟨2, 1, u1, n3, data.flatMap intC⟩, ⟨80, 3, u2, n5, syms.flatMap symC⟩, ⟨130, 4, (.slice (some ⟨g, 0, none⟩) (k + 1) cap), (k + 1), (l ++ [(⟨xp, xk, xn, xa⟩ : Rel)]).flatMap relC⟩] [.string { data := #[] }, .slice none 0 0, .slice none 0 0, .slice none 0 0]) := by
                      have hp := HE.out.push (k := 2) rfl ho6 hg6 hat6 (by simp)
                      have e : l.flatMap relC ++ relC (⟨xp, xk, xn, xa⟩ : Rel) = (l ++ [(⟨xp, xk, xn, xa⟩ : Rel)]).flatMap relC := by simp
                      rw [e] at hp
                      exact hp
                    refine hK.out _ _ h60 (fun hHeld => ?_)
                    clear hK K ho6 hg6 hat6 hlt6 HNC
                    try simp only [Act.put, List.setIfInBounds_toArray, List.set_cons_zero, List.set_cons_succ]
                    refine wpAnyH_take (i := 6) (v := ?_) (get1 (get1 (get1 (get1 (get1 (get1 (get0 _ _))))))) (by kernel_rfl) (by kernel_rfl) (by kernel_rfl) (fun _ _ _ h => h) (Or.inl ⟨by rfl, ?_⟩) (by assumption) ?_
                    rotate_left
                    · (intro w hSw; (try dsimp only at hSw); go_simp <;> with_reducible rfl)
                    simp only [Act.put, List.setIfInBounds_toArray, List.set_cons_zero, List.set_cons_succ]
                    refine wpAnyH_ready (rs := [7]) (by kernel_rfl) (by simp) ?_
                    refine AllReadyH.cons (get1 (get1 (get1 (get1 (get1 (get1 (get1 (get0 _ _)))))))) (fun K hK => ?_) AllReadyH.nil
                    go_simp
                    refine hK.out _ _ HP.out.rd.c0 (fun hHeld => ?_)
                    clear hK K
                    try simp only [Act.put, List.setIfInBounds_toArray, List.set_cons_zero, List.set_cons_succ]
                    refine wpAnyH_done (by kernel_rfl) ?_ _
                    clear hHeld m6 z6 h60
                    have HLN : Hid (rdMany rdRel (k + 1) s j7 = some (l ++ [(⟨xp, xk, xn, xa⟩ : Rel)], j')) := by show _ = _; rw [rdMany, HL.out]; simp only [HX.out]
                    go_wp2_with fail
                    go_roundg (n7 - (k + 1))
                    case measure => omega
                    case rel => exact ⟨k + 1, _, _, _, by first | rfl | (congr 1; omega), by omega, Nat.le_refl _, HLN.out, HP.out⟩
                  exact AllReadyH.nil
                exact AllReadyH.nil
              refine AllReadyH.cons (get1 (get1 (get1 (get0 _ _)))) (fun K hK => ?_) ?_
              · go_simp
                refine (rrel_any HD.out.rd).mono ?_
                rintro e y ⟨⟨x, j', hf, rfl, hr⟩ | ⟨hf, c, rfl⟩, hg⟩
                rotate_left
                · have HF : Hid (rdObj s = none) := by show _ = _; have hcut := many_cut HL.out hlt hf; simp only [rdObj, rdBody, hcot, if_true, Int.toNat_natCast, F0.out, F1.out, F2.out, F3.out, F4.out, F5.out, F6.out, F7.out, hcut]
                  have HGG : Hid _ := grown_trans HD.out.g hg
                  clear hf hg hK
                  go_wp2
                  exact ⟨rfl, .inr ⟨HF.out, c, rfl⟩, HGG.out⟩
                obtain ⟨xp, xk, xn, xa⟩ := x
                simp only [relV]
                have HC : Hid (OB w y br s j' z (.string code) [⟨2, 1, u1, n3, data.flatMap intC⟩, ⟨80, 3, u2, n5, syms.flatMap symC⟩, ⟨130, 4, v, k, l.flatMap relC⟩] [.string { data := #[] }, .slice none 0 0, .slice none 0 0, .slice none 0 0]) := HD.out.call hr hg
                have HX : Hid _ := hf
                clear hf hr hg
                try go_wp2_with fail
                refine hK.out _ _ HC.out.rd.c0 (fun hHeld => ?_)
                clear hK K
                try simp only [Act.put, List.setIfInBounds_toArray, List.set_cons_zero, List.set_cons_succ]
                refine wpAnyH_ready (rs := [1, 4]) (by kernel_rfl) (by simp) ?_
                refine AllReadyH.cons (get1 (get0 _ _)) (fun K hK => ?_) ?_
                · have m1 := HC.out.ck 2 _ rfl
                  go_simp
                  refine hK.out _ _ hHeld (fun hHeld => ?_)
                  clear hK K m1
                  try simp only [Act.put, List.setIfInBounds_toArray, List.set_cons_zero, List.set_cons_succ]
                  refine wpAnyH_ready (rs := [4]) (by kernel_rfl) (by simp) ?_
                  refine AllReadyH.cons (get1 (get1 (get1 (get1 (get0 _ _))))) (fun K hK => ?_) ?_
                  · go_simp
                    have HE : Hid (OB w (y.alloc (.cells #[.int .i64 xp, .int .i64 xk, .string xn, .int .i64 xa] 130)) br s j' z (.string code) [⟨2, 1, u1, n3, data.flatMap intC⟩, ⟨80, 3, u2, n5, syms.flatMap symC⟩, ⟨130, 4, v, k, l.flatMap relC⟩] [.string { data := #[] }, .slice none 0 0, .slice none 0 0, .slice none 0 0]) := HC.out.below (bl_one _ _)
                    refine hK.out _ _ HE.out.rd.c0 (fun hHeld => ?_)
                    clear hK K
                    try simp only [Act.put, List.setIfInBounds_toArray, List.set_cons_zero, List.set_cons_succ]
                    refine wpAnyH_ready (rs := [5]) (by kernel_rfl) (by simp) ?_
                    refine AllReadyH.cons (get1 (get1 (get1 (get1 (get1 (get0 _ _)))))) (fun K hK => ?_) AllReadyH.nil
                    have HNC : Hid (∀ j u, (relC (⟨xp, xk, xn, xa⟩ : Rel))[j]? = some u → (y.alloc (.cells #[.int .i64 xp, .int .i64 xk, .string xn, .int .i64 xa] 130)).cell? ((⟨y.heap.size, 0, none⟩ : Addr).add j) = some u) := fun j u hu => by rw [Addr.add_lit, Nat.zero_add]; exact cell_last rfl (by simpa [relC] using hu)
                    refine step_append_lies _ (by rfl) _ _ 65 (by rfl) (w.heap.size + 1) 130 i3 _ 4 40 Tryd.underlying65 hi3 hz30 hz31 hz32 (by rfl) (by decide) v k _ (by rfl) (HE.out.own 2 _ rfl).1 ⟨y.heap.size, 0, none⟩ 1 1 (relC (⟨xp, xk, xn, xa⟩ : Rel)) (by rfl) (by rfl) HNC.out (by intro u hu; simp [relC] at hu; first | (rcases hu with rfl | rfl | rfl | rfl <;> rfl) | (rcases hu with rfl | rfl | rfl <;> rfl) | (subst hu; rfl)) (by decide) (by unfold maxLen; omega) (by omega) (by have := HE.out.zw; have := HE.out.zl; omega) (y.heap.size + 1) (by simp) ?_
                    intro g cap Y6 ho6 hg6 hat6 hlt6
                    have nbr : v.ownBlock ≠ some br := fun e => by have h1 := ((HE.out.own 2 _ rfl).1.lt _ e).1; have := HE.out.lt; omega
                    have nz : v.ownBlock ≠ some z := (HE.out.own 2 _ rfl).2
                    have h60 := (HE.out.rd.grown hg6 nbr).c0
                    have m6 : Y6.cell? ⟨z, 3, none⟩ = some v := grown_row hg6 (HE.out.ck 2 _ rfl) nz
                    have z6 : Y6.frozen? ⟨z, 3, none⟩ = false := (hg6.frozen_far ⟨z, 3, none⟩ HE.out.zl (fun e => nz e.symm)).trans (HE.out.fz 3)
                    have HP : Hid (OB w (Y6.setCell ⟨z, 3, none⟩ (.slice (some ⟨g, 0, none⟩) (k + 1) cap)) br s j' z (.string code) [⟨2, 1, u1, n3, data.flatMap intC⟩, ⟨80, 3, u2, n5, syms.flatMap symC⟩, ⟨130, 4, (.slice (some ⟨g, 0, none⟩) (k + 1) cap), (k + 1), (l ++ [(⟨xp, xk, xn, xa⟩ : Rel)]).flatMap relC⟩] [.string { data := #[] }, .slice none 0 0, .slice none 0 0, .slice none 0 0]) := by
                      have hp := HE.out.push (k := 2) rfl ho6 hg6 hat6 (by simp)
                      have e : l.flatMap relC ++ relC (⟨xp, xk, xn, xa⟩ : Rel) = (l ++ [(⟨xp, xk, xn, xa⟩ : Rel)]).flatMap relC := by simp
                      rw [e] at hp
                      exact hp
                    refine hK.out _ _ h60 (fun hHeld => ?_)
                    clear hK K ho6 hg6 hat6 hlt6 HNC
                    try simp only [Act.put, List.setIfInBounds_toArray, List.set_cons_zero, List.set_cons_succ]
                    refine wpAnyH_take (i := 6) (v := ?_) (get1 (get1 (get1 (get1 (get1 (get1 (get0 _ _))))))) (by kernel_rfl) (by kernel_rfl) (by kernel_rfl) (fun _ _ _ h => h) (Or.inl ⟨by rfl, ?_⟩) (by assumption) ?_
                    rotate_left
                    · (intro w hSw; (try dsimp only at hSw); go_simp <;> with_reducible rfl)
                    simp only [Act.put, List.setIfInBounds_toArray, List.set_cons_zero, List.set_cons_succ]
                    refine wpAnyH_ready (rs := [7]) (by kernel_rfl) (by simp) ?_
                    refine AllReadyH.cons (get1 (get1 (get1 (get1 (get1 (get1 (get1 (get0 _ _)))))))) (fun K hK => ?_) AllReadyH.nil
                    go_simp
                    refine hK.out _ _ HP.out.rd.c0 (fun hHeld => ?_)
                    clear hK K
                    try simp only [Act.put, List.setIfInBounds_toArray, List.set_cons_zero, List.set_cons_succ]
                    refine wpAnyH_done (by kernel_rfl) ?_ _
                    clear hHeld m6 z6 h60
                    have HLN : Hid (rdMany rdRel (k + 1) s j7 = some (l ++ [(⟨xp, xk, xn, xa⟩ : Rel)], j')) := by show _ = _; rw [rdMany, HL.out]; simp only [HX.out]
                    go_wp2_with fail
                    go_roundg (n7 - (k + 1))
                    case measure => omega
                    case rel => exact ⟨k + 1, _, _, _, by first | rfl | (congr 1; omega), by omega, Nat.le_refl _, HLN.out, HP.out⟩
                  exact AllReadyH.nil
                refine AllReadyH.cons (get1 (get1 (get1 (get1 (get0 _ _))))) (fun K hK => ?_) ?_
                · go_simp
                  have HE : Hid (OB w (y.alloc (.cells #[.int .i64 xp, .int .i64 xk, .string xn, .int .i64 xa] 130)) br s j' z (.string code) [⟨2, 1, u1, n3, data.flatMap intC⟩, ⟨80, 3, u2, n5, syms.flatMap symC⟩, ⟨130, 4, v, k, l.flatMap relC⟩] [.string { data := #[] }, .slice none 0 0, .slice none 0 0, .slice none 0 0]) := HC.out.below (bl_one _ _)
                  refine hK.out _ _ HE.out.rd.c0 (fun hHeld => ?_)
                  clear hK K
                  try simp only [Act.put, List.setIfInBounds_toArray, List.set_cons_zero, List.set_cons_succ]
                  refine wpAnyH_ready (rs := [1]) (by kernel_rfl) (by simp) ?_
                  refine AllReadyH.cons (get1 (get0 _ _)) (fun K hK => ?_) ?_
                  · have m1 := HE.out.ck 2 _ rfl
                    go_simp
                    refine hK.out _ _ hHeld (fun hHeld => ?_)
                    clear hK K m1
                    try simp only [Act.put, List.setIfInBounds_toArray, List.set_cons_zero, List.set_cons_succ]
                    refine wpAnyH_ready (rs := [5]) (by kernel_rfl) (by simp) ?_
                    refine AllReadyH.cons (get1 (get1 (get1 (get1 (get1 (get0 _ _)))))) (fun K hK => ?_) AllReadyH.nil
                    have HNC : Hid (∀ j u, (relC (⟨xp, xk, xn, xa⟩ : Rel))[j]? = some u → (y.alloc (.cells #[.int .i64 xp, .int .i64 xk, .string xn, .int .i64 xa] 130)).cell? ((⟨y.heap.size, 0, none⟩ : Addr).add j) = some u) := fun j u hu => by rw [Addr.add_lit, Nat.zero_add]; exact cell_last rfl (by simpa [relC] using hu)
                    refine step_append_lies _ (by rfl) _ _ 65 (by rfl) (w.heap.size + 1) 130 i3 _ 4 40 Tryd.underlying65 hi3 hz30 hz31 hz32 (by rfl) (by decide) v k _ (by rfl) (HE.out.own 2 _ rfl).1 ⟨y.heap.size, 0, none⟩ 1 1 (relC (⟨xp, xk, xn, xa⟩ : Rel)) (by rfl) (by rfl) HNC.out (by intro u hu; simp [relC] at hu; first | (rcases hu with rfl | rfl | rfl | rfl <;> rfl) | (rcases hu with rfl | rfl | rfl <;> rfl) | (subst hu; rfl)) (by decide) (by unfold maxLen; omega) (by omega) (by have := HE.out.zw; have := HE.out.zl; omega) (y.heap.size + 1) (by simp) ?_
                    intro g cap Y6 ho6 hg6 hat6 hlt6
                    have nbr : v.ownBlock ≠ some br := fun e => by have h1 := ((HE.out.own 2 _ rfl).1.lt _ e).1; have := HE.out.lt; omega
                    have nz : v.ownBlock ≠ some z := (HE.out.own 2 _ rfl).2
                    have h60 := (HE.out.rd.grown hg6 nbr).c0
                    have m6 : Y6.cell? ⟨z, 3, none⟩ = some v := grown_row hg6 (HE.out.ck 2 _ rfl) nz
                    have z6 : Y6.frozen? ⟨z, 3, none⟩ = false := (hg6.frozen_far ⟨z, 3, none⟩ HE.out.zl (fun e => nz e.symm)).trans (HE.out.fz 3)
                    have HP : Hid (OB w (Y6.setCell ⟨z, 3, none⟩ (.slice (some ⟨g, 0, none⟩) (k + 1) cap)) br s j' z (.string code) [⟨2, 1, u1, n3, data.flatMap intC⟩, ⟨80, 3, u2, n5, syms.flatMap symC⟩, ⟨130, 4, (.slice (some ⟨g, 0, none⟩) (k + 1) cap), (k + 1), (l ++ [(⟨xp, xk, xn, xa⟩ : Rel)]).flatMap relC⟩] [.string { data := #[] }, .slice none 0 0, .slice none 0 0, .slice none 0 0]) := by
                      have hp := HE.out.push (k := 2) rfl ho6 hg6 hat6 (by simp)
                      have e : l.flatMap relC ++ relC (⟨xp, xk, xn, xa⟩ : Rel) = (l ++ [(⟨xp, xk, xn, xa⟩ : Rel)]).flatMap relC := by simp
                      rw [e] at hp
                      exact hp
                    refine hK.out _ _ h60 (fun hHeld => ?_)
                    clear hK K ho6 hg6 hat6 hlt6 HNC
                    try simp only [Act.put, List.setIfInBounds_toArray, List.set_cons_zero, List.set_cons_succ]
                    refine wpAnyH_take (i := 6) (v := ?_) (get1 (get1 (get1 (get1 (get1 (get1 (get0 _ _))))))) (by kernel_rfl) (by kernel_rfl) (by kernel_rfl) (fun _ _ _ h => h) (Or.inl ⟨by rfl, ?_⟩) (by assumption) ?_
                    rotate_left
                    · (intro w hSw; (try dsimp only at hSw); go_simp <;> with_reducible rfl)
                    simp only [Act.put, List.setIfInBounds_toArray, List.set_cons_zero, List.set_cons_succ]
                    refine wpAnyH_ready (rs := [7]) (by kernel_rfl) (by simp) ?_
                    refine AllReadyH.cons (get1 (get1 (get1 (get1 (get1 (get1 (get1 (get0 _ _)))))))) (fun K hK => ?_) AllReadyH.nil
                    go_simp
                    refine hK.out _ _ HP.out.rd.c0 (fun hHeld => ?_)
                    clear hK K
                    try simp only [Act.put, List.setIfInBounds_toArray, List.set_cons_zero, List.set_cons_succ]
                    refine wpAnyH_done (by kernel_rfl) ?_ _
                    clear hHeld m6 z6 h60
                    have HLN : Hid (rdMany rdRel (k + 1) s j7 = some (l ++ [(⟨xp, xk, xn, xa⟩ : Rel)], j')) := by show _ = _; rw [rdMany, HL.out]; simp only [HX.out]
                    go_wp2_with fail
                    go_roundg (n7 - (k + 1))
                    case measure => omega
                    case rel => exact ⟨k + 1, _, _, _, by first | rfl | (congr 1; omega), by omega, Nat.le_refl _, HLN.out, HP.out⟩
                  exact AllReadyH.nil
                exact AllReadyH.nil
              exact AllReadyH.nil
            · obtain rfl : n7 = k := by omega
              obtain ⟨rels, rfl⟩ : ∃ xs, xs = l := ⟨_, rfl⟩
              obtain ⟨u3, rfl⟩ : ∃ x, x = v := ⟨_, rfl⟩
              obtain ⟨j8, rfl⟩ : ∃ x, x = j := ⟨_, rfl⟩
              have F8 : Hid _ := HL.out
              clear HL
              go_wp2_with fail
              have HBODY : Hid (rdBody s = some (⟨code, data, syms, rels⟩, j8)) := by show _ = _; simp only [rdBody, hcot, if_true, Int.toNat_natCast, F0.out, F1.out, F2.out, F3.out, F4.out, F5.out, F6.out, F7.out, F8.out]
              have HIN : Hid _ := (body_sound HBODY.out).2.2
              have l1 := many_len F4.out
              have l2 := many_len F6.out
              have l3 := many_len F8.out
              have HOF : Hid (ObjF (w.heap.size + 1) wr (.agg #[.string code, u1, u2, u3]) ⟨code, data, syms, rels⟩) := by
                refine ⟨⟨u1, u2, u3, rfl, ?_, ?_, ?_⟩, HIN.out⟩
                · show World.ownsRow _ _ _ _ _ data.length _
                  rw [l1]; exact (HB.out.own 0 _ rfl).1
                · show World.ownsRow _ _ _ _ _ syms.length _
                  rw [l2]; exact (HB.out.own 1 _ rfl).1
                · show World.ownsRow _ _ _ _ _ rels.length _
                  rw [l3]; exact (HB.out.own 2 _ rfl).1
              clear l1 l2 l3
              obtain ⟨a1, c1, rfl⟩ : ∃ a c, u1 = .slice a n3 c := own_slice (HB.out.own 0 _ rfl).1
              obtain ⟨a2, c2, rfl⟩ : ∃ a c, u2 = .slice a n5 c := own_slice (HB.out.own 1 _ rfl).1
              obtain ⟨a3, c3, rfl⟩ : ∃ a c, u3 = .slice a n7 c := own_slice (HB.out.own 2 _ rfl).1
              have HD : Hid _ := HB.out.drew
              have HS : Hid ((wr.drew.cell? ⟨br, 0, none⟩ = some (.string s) ∧ wr.drew.cell? ⟨br, 1, none⟩ = some (.int .i64 j8) ∧ wr.drew.cell? ⟨z, 0, none⟩ = some (.string code) ∧ wr.drew.cell? ⟨z, 1, none⟩ = some (.slice a1 n3 c1) ∧ wr.drew.cell? ⟨z, 2, none⟩ = some (.slice a2 n5 c2) ∧ wr.drew.cell? ⟨z, 3, none⟩ = some (.slice a3 n7 c3))) := ⟨HD.out.rd.c0, HD.out.rd.c1, HD.out.c0, HD.out.ck 0 _ rfl, HD.out.ck 1 _ rfl, HD.out.ck 2 _ rfl⟩
              by_cases hj : j8 = s.size
              rotate_left
              · have HF : Hid (rdObj s = none) := by show _ = _; simp only [rdObj, HBODY.out]; rw [if_neg (fun h => hj h.1)]
                have hd : ((j8 : Int) != (s.size : Int)) = true := by simp; omega
                have hszz : s.size ≤ 9223372036854775807 := by have := HD.out.rd.sz; unfold maxLen at this; omega
                refine wp_region_held_drew (S := (fun w' : World => (w'.cell? ⟨br, 0, none⟩ = some (.string s) ∧ w'.cell? ⟨br, 1, none⟩ = some (.int .i64 j8) ∧ w'.cell? ⟨z, 0, none⟩ = some (.string code) ∧ w'.cell? ⟨z, 1, none⟩ = some (.slice a1 n3 c1) ∧ w'.cell? ⟨z, 2, none⟩ = some (.slice a2 n5 c2) ∧ w'.cell? ⟨z, 3, none⟩ = some (.slice a3 n7 c3)))) (by kernel_rfl) HS.out (fun hHeld => ?_)
                refine wpAnyH_take (i := 0) (v := ?_) (get0 _ _) (by kernel_rfl) (by kernel_rfl) (by kernel_rfl) (fun _ _ _ h => h) (Or.inl ⟨by rfl, ?_⟩) (by assumption) ?_
                rotate_left
                · (intro w hSw; (try dsimp only at hSw); go_simp <;> with_reducible rfl)
                simp only [Act.put, List.setIfInBounds_toArray, List.set_cons_zero, List.set_cons_succ]
                refine wpAnyH_take (i := 1) (v := ?_) (get1 (get0 _ _)) (by kernel_rfl) (by kernel_rfl) (by kernel_rfl) (fun _ _ _ h => h) (Or.inl ⟨by rfl, ?_⟩) (by assumption) ?_
                rotate_left
                · (intro w hSw; (try dsimp only at hSw); go_simp <;> with_reducible rfl)
                simp only [Act.put, List.setIfInBounds_toArray, List.set_cons_zero, List.set_cons_succ]
                refine wpAnyH_take (i := 2) (v := ?_) (get1 (get1 (get0 _ _))) (by kernel_rfl) (by kernel_rfl) (by kernel_rfl) (fun _ _ _ h => h) (Or.inl ⟨by rfl, ?_⟩) (by assumption) ?_
                rotate_left
                · (intro w hSw; (try dsimp only at hSw); go_simp <;> with_reducible rfl)
                simp only [Act.put, List.setIfInBounds_toArray, List.set_cons_zero, List.set_cons_succ]
                refine wpAnyH_take (i := 3) (v := ?_) (get1 (get1 (get1 (get0 _ _)))) (by kernel_rfl) (by kernel_rfl) (by kernel_rfl) (fun _ _ _ h => h) (Or.inl ⟨by rfl, ?_⟩) (by assumption) ?_
                rotate_left
                · (intro w hSw; (try dsimp only at hSw); go_simp <;> with_reducible rfl)
                simp only [Act.put, List.setIfInBounds_toArray, List.set_cons_zero, List.set_cons_succ]
                refine wpAnyH_take (i := 4) (v := ?_) (get1 (get1 (get1 (get1 (get0 _ _))))) (by kernel_rfl) (by kernel_rfl) (by kernel_rfl) (fun _ _ _ h => h) (Or.inl ⟨by rfl, ?_⟩) (by assumption) ?_
                rotate_left
                · (intro w hSw; (try dsimp only at hSw); go_simp <;> with_reducible rfl)
                simp only [Act.put, List.setIfInBounds_toArray, List.set_cons_zero, List.set_cons_succ]
                refine wpAnyH_take (i := 5) (v := ?_) (get1 (get1 (get1 (get1 (get1 (get0 _ _)))))) (by kernel_rfl) (by kernel_rfl) (by kernel_rfl) (fun _ _ _ h => h) (Or.inl ⟨by rfl, ?_⟩) (by assumption) ?_
                rotate_left
                · (intro w hSw; (try dsimp only at hSw); go_simp <;> with_reducible rfl)
                simp only [Act.put, List.setIfInBounds_toArray, List.set_cons_zero, List.set_cons_succ]
                refine wpAnyH_take (i := 6) (v := ?_) (get1 (get1 (get1 (get1 (get1 (get1 (get0 _ _))))))) (by kernel_rfl) (by kernel_rfl) (by kernel_rfl) (fun _ _ _ h => h) (Or.inl ⟨by rfl, ?_⟩) (by assumption) ?_
                rotate_left
                · (intro w hSw; (try dsimp only at hSw); go_simp <;> with_reducible rfl)
                simp only [Act.put, List.setIfInBounds_toArray, List.set_cons_zero, List.set_cons_succ]
                refine wpAnyH_take (i := 7) (v := ?_) (get1 (get1 (get1 (get1 (get1 (get1 (get1 (get0 _ _)))))))) (by kernel_rfl) (by kernel_rfl) (by kernel_rfl) (fun _ _ _ h => h) (Or.inl ⟨by rfl, ?_⟩) (by assumption) ?_
                rotate_left
                · (intro w hSw; (try dsimp only at hSw); go_simp <;> with_reducible rfl)
                simp only [Act.put, List.setIfInBounds_toArray, List.set_cons_zero, List.set_cons_succ]
                refine wpAnyH_take (i := 8) (v := ?_) (get1 (get1 (get1 (get1 (get1 (get1 (get1 (get1 (get0 _ _))))))))) (by kernel_rfl) (by kernel_rfl) (by kernel_rfl) (fun _ _ _ h => h) (Or.inl ⟨by rfl, ?_⟩) (by assumption) ?_
                rotate_left
                · (intro w hSw; (try dsimp only at hSw); go_simp <;> with_reducible rfl)
                simp only [Act.put, List.setIfInBounds_toArray, List.set_cons_zero, List.set_cons_succ]
                refine wpAnyH_take (i := 9) (v := ?_) (get1 (get1 (get1 (get1 (get1 (get1 (get1 (get1 (get1 (get0 _ _)))))))))) (by kernel_rfl) (by kernel_rfl) (by kernel_rfl) (fun _ _ _ h => h) (Or.inl ⟨by rfl, ?_⟩) (by assumption) ?_
                rotate_left
                · (intro w hSw; (try dsimp only at hSw); go_simp <;> with_reducible rfl)
                simp only [Act.put, List.setIfInBounds_toArray, List.set_cons_zero, List.set_cons_succ]
                refine wpAnyH_take (i := 10) (v := ?_) (get1 (get1 (get1 (get1 (get1 (get1 (get1 (get1 (get1 (get1 (get0 _ _))))))))))) (by kernel_rfl) (by kernel_rfl) (by kernel_rfl) (fun _ _ _ h => h) (Or.inl ⟨by rfl, ?_⟩) (by assumption) ?_
                rotate_left
                · (intro w hSw; (try dsimp only at hSw); go_simp <;> with_reducible rfl)
                simp only [Act.put, List.setIfInBounds_toArray, List.set_cons_zero, List.set_cons_succ]
                refine wpAnyH_take (i := 11) (v := undef) (get1 (get1 (get1 (get1 (get1 (get1 (get1 (get1 (get1 (get1 (get1 (get0 _ _)))))))))))) (by kernel_rfl) (by kernel_rfl) (by kernel_rfl) (fun _ _ _ h => h) (Or.inr ⟨by rfl, rfl⟩) (by assumption) ?_
                simp only [Act.put, List.setIfInBounds_toArray, List.set_cons_zero, List.set_cons_succ]
                refine wpAnyH_take (i := 12) (v := undef) (get1 (get1 (get1 (get1 (get1 (get1 (get1 (get1 (get1 (get1 (get1 (get1 (get0 _ _))))))))))))) (by kernel_rfl) (by kernel_rfl) (by kernel_rfl) (fun _ _ _ h => h) (Or.inr ⟨by rfl, rfl⟩) (by assumption) ?_
                simp only [Act.put, List.setIfInBounds_toArray, List.set_cons_zero, List.set_cons_succ]
                refine wpAnyH_take (i := 13) (v := undef) (get1 (get1 (get1 (get1 (get1 (get1 (get1 (get1 (get1 (get1 (get1 (get1 (get1 (get0 _ _)))))))))))))) (by kernel_rfl) (by kernel_rfl) (by kernel_rfl) (fun _ _ _ h => h) (Or.inr ⟨by rfl, rfl⟩) (by assumption) ?_
                simp only [Act.put, List.setIfInBounds_toArray, List.set_cons_zero, List.set_cons_succ]
                refine wpAnyH_take (i := 14) (v := ?_) (get1 (get1 (get1 (get1 (get1 (get1 (get1 (get1 (get1 (get1 (get1 (get1 (get1 (get1 (get0 _ _))))))))))))))) (by kernel_rfl) (by kernel_rfl) (by kernel_rfl) (fun _ _ _ h => h) (Or.inl ⟨by rfl, ?_⟩) (by assumption) ?_
                rotate_left
                · (intro w hSw; (try dsimp only at hSw); go_simp <;> with_reducible rfl)
                simp only [Act.put, List.setIfInBounds_toArray, List.set_cons_zero, List.set_cons_succ]
                refine wpAnyH_done (by kernel_rfl) ?_ _
                clear hHeld
                go_wp2
                exact ⟨rfl, .inr ⟨HF.out, _, rfl⟩, HD.out.g⟩
              · have hd : ((j8 : Int) != (s.size : Int)) = false := by simp; omega
                have hszz : s.size ≤ 9223372036854775807 := by have := HD.out.rd.sz; unfold maxLen at this; omega
                have HJ : Hid _ := hj
                clear hj
                refine wp_region_held_drew (S := (fun w' : World => (w'.cell? ⟨br, 0, none⟩ = some (.string s) ∧ w'.cell? ⟨br, 1, none⟩ = some (.int .i64 j8) ∧ w'.cell? ⟨z, 0, none⟩ = some (.string code) ∧ w'.cell? ⟨z, 1, none⟩ = some (.slice a1 n3 c1) ∧ w'.cell? ⟨z, 2, none⟩ = some (.slice a2 n5 c2) ∧ w'.cell? ⟨z, 3, none⟩ = some (.slice a3 n7 c3)))) (by kernel_rfl) HS.out (fun hHeld => ?_)
                refine wpAnyH_take (i := 0) (v := ?_) (get0 _ _) (by kernel_rfl) (by kernel_rfl) (by kernel_rfl) (fun _ _ _ h => h) (Or.inl ⟨by rfl, ?_⟩) (by assumption) ?_
                rotate_left
                · (intro w hSw; (try dsimp only at hSw); go_simp <;> with_reducible rfl)
                simp only [Act.put, List.setIfInBounds_toArray, List.set_cons_zero, List.set_cons_succ]
                refine wpAnyH_take (i := 1) (v := ?_) (get1 (get0 _ _)) (by kernel_rfl) (by kernel_rfl) (by kernel_rfl) (fun _ _ _ h => h) (Or.inl ⟨by rfl, ?_⟩) (by assumption) ?_
                rotate_left
                · (intro w hSw; (try dsimp only at hSw); go_simp <;> with_reducible rfl)
                simp only [Act.put, List.setIfInBounds_toArray, List.set_cons_zero, List.set_cons_succ]
                refine wpAnyH_take (i := 2) (v := ?_) (get1 (get1 (get0 _ _))) (by kernel_rfl) (by kernel_rfl) (by kernel_rfl) (fun _ _ _ h => h) (Or.inl ⟨by rfl, ?_⟩) (by assumption) ?_
                rotate_left
                · (intro w hSw; (try dsimp only at hSw); go_simp <;> with_reducible rfl)
                simp only [Act.put, List.setIfInBounds_toArray, List.set_cons_zero, List.set_cons_succ]
                refine wpAnyH_take (i := 3) (v := ?_) (get1 (get1 (get1 (get0 _ _)))) (by kernel_rfl) (by kernel_rfl) (by kernel_rfl) (fun _ _ _ h => h) (Or.inl ⟨by rfl, ?_⟩) (by assumption) ?_
                rotate_left
                · (intro w hSw; (try dsimp only at hSw); go_simp <;> with_reducible rfl)
                simp only [Act.put, List.setIfInBounds_toArray, List.set_cons_zero, List.set_cons_succ]
                refine wpAnyH_take (i := 4) (v := ?_) (get1 (get1 (get1 (get1 (get0 _ _))))) (by kernel_rfl) (by kernel_rfl) (by kernel_rfl) (fun _ _ _ h => h) (Or.inl ⟨by rfl, ?_⟩) (by assumption) ?_
                rotate_left
                · (intro w hSw; (try dsimp only at hSw); go_simp <;> with_reducible rfl)
                simp only [Act.put, List.setIfInBounds_toArray, List.set_cons_zero, List.set_cons_succ]
                refine wpAnyH_take (i := 5) (v := ?_) (get1 (get1 (get1 (get1 (get1 (get0 _ _)))))) (by kernel_rfl) (by kernel_rfl) (by kernel_rfl) (fun _ _ _ h => h) (Or.inl ⟨by rfl, ?_⟩) (by assumption) ?_
                rotate_left
                · (intro w hSw; (try dsimp only at hSw); go_simp <;> with_reducible rfl)
                simp only [Act.put, List.setIfInBounds_toArray, List.set_cons_zero, List.set_cons_succ]
                refine wpAnyH_take (i := 6) (v := ?_) (get1 (get1 (get1 (get1 (get1 (get1 (get0 _ _))))))) (by kernel_rfl) (by kernel_rfl) (by kernel_rfl) (fun _ _ _ h => h) (Or.inl ⟨by rfl, ?_⟩) (by assumption) ?_
                rotate_left
                · (intro w hSw; (try dsimp only at hSw); go_simp <;> with_reducible rfl)
                simp only [Act.put, List.setIfInBounds_toArray, List.set_cons_zero, List.set_cons_succ]
                refine wpAnyH_take (i := 7) (v := ?_) (get1 (get1 (get1 (get1 (get1 (get1 (get1 (get0 _ _)))))))) (by kernel_rfl) (by kernel_rfl) (by kernel_rfl) (fun _ _ _ h => h) (Or.inl ⟨by rfl, ?_⟩) (by assumption) ?_
                rotate_left
                · (intro w hSw; (try dsimp only at hSw); go_simp <;> with_reducible rfl)
                simp only [Act.put, List.setIfInBounds_toArray, List.set_cons_zero, List.set_cons_succ]
                refine wpAnyH_take (i := 8) (v := ?_) (get1 (get1 (get1 (get1 (get1 (get1 (get1 (get1 (get0 _ _))))))))) (by kernel_rfl) (by kernel_rfl) (by kernel_rfl) (fun _ _ _ h => h) (Or.inl ⟨by rfl, ?_⟩) (by assumption) ?_
                rotate_left
                · (intro w hSw; (try dsimp only at hSw); go_simp <;> with_reducible rfl)
                simp only [Act.put, List.setIfInBounds_toArray, List.set_cons_zero, List.set_cons_succ]
                refine wpAnyH_take (i := 9) (v := ?_) (get1 (get1 (get1 (get1 (get1 (get1 (get1 (get1 (get1 (get0 _ _)))))))))) (by kernel_rfl) (by kernel_rfl) (by kernel_rfl) (fun _ _ _ h => h) (Or.inl ⟨by rfl, ?_⟩) (by assumption) ?_
                rotate_left
                · (intro w hSw; (try dsimp only at hSw); go_simp <;> with_reducible rfl)
                simp only [Act.put, List.setIfInBounds_toArray, List.set_cons_zero, List.set_cons_succ]
                refine wpAnyH_take (i := 10) (v := ?_) (get1 (get1 (get1 (get1 (get1 (get1 (get1 (get1 (get1 (get1 (get0 _ _))))))))))) (by kernel_rfl) (by kernel_rfl) (by kernel_rfl) (fun _ _ _ h => h) (Or.inl ⟨by rfl, ?_⟩) (by assumption) ?_
                rotate_left
                · (intro w hSw; (try dsimp only at hSw); go_simp <;> with_reducible rfl)
                simp only [Act.put, List.setIfInBounds_toArray, List.set_cons_zero, List.set_cons_succ]
                refine wpAnyH_take (i := 11) (v := ?_) (get1 (get1 (get1 (get1 (get1 (get1 (get1 (get1 (get1 (get1 (get1 (get0 _ _)))))))))))) (by kernel_rfl) (by kernel_rfl) (by kernel_rfl) (fun _ _ _ h => h) (Or.inl ⟨by rfl, ?_⟩) (by assumption) ?_
                rotate_left
                · (intro w hSw; (try dsimp only at hSw); go_simp <;> with_reducible rfl)
                simp only [Act.put, List.setIfInBounds_toArray, List.set_cons_zero, List.set_cons_succ]
                refine wpAnyH_ready (rs := [12]) (by kernel_rfl) (by simp) ?_
                refine AllReadyH.cons (get1 (get1 (get1 (get1 (get1 (get1 (get1 (get1 (get1 (get1 (get1 (get1 (get0 _ _))))))))))))) (fun K hK => ?_) AllReadyH.nil
                go_simp
                refine (check_any (HOF.out.below (Below.refl _ _).drew).toV).mono ?_
                rintro e Y ⟨rfl, hbY⟩
                have HC : Hid _ := HD.out.below hbY
                have HOC : Hid _ := (HOF.out.below (Below.refl _ _).drew).below hbY
                have HSC : Hid ((Y.cell? ⟨br, 0, none⟩ = some (.string s) ∧ Y.cell? ⟨br, 1, none⟩ = some (.int .i64 j8) ∧ Y.cell? ⟨z, 0, none⟩ = some (.string code) ∧ Y.cell? ⟨z, 1, none⟩ = some (.slice a1 n3 c1) ∧ Y.cell? ⟨z, 2, none⟩ = some (.slice a2 n5 c2) ∧ Y.cell? ⟨z, 3, none⟩ = some (.slice a3 n7 c3))) := ⟨HC.out.rd.c0, HC.out.rd.c1, HC.out.c0, HC.out.ck 0 _ rfl, HC.out.ck 1 _ rfl, HC.out.ck 2 _ rfl⟩
                clear hbY
                cases hm : ObjD.may ⟨code, data, syms, rels⟩ with
                | false =>
                  have HF : Hid (rdObj s = none) := by show _ = _; simp only [rdObj, HBODY.out]; rw [if_neg (fun h => by rw [hm] at h; exact absurd h.2 (by decide))]
                  clear hm
                  simp only [Bool.false_eq_true, if_false]
                  try go_wp2_with fail
                  refine hK.out _ _ HSC.out (fun hHeld => ?_)
                  clear hK K
                  try simp only [Act.put, List.setIfInBounds_toArray, List.set_cons_zero, List.set_cons_succ]
                  refine wpAnyH_take (i := 13) (v := ?_) (get1 (get1 (get1 (get1 (get1 (get1 (get1 (get1 (get1 (get1 (get1 (get1 (get1 (get0 _ _)))))))))))))) (by kernel_rfl) (by kernel_rfl) (by kernel_rfl) (fun _ _ _ h => h) (Or.inl ⟨by rfl, ?_⟩) (by assumption) ?_
                  rotate_left
                  · (intro w hSw; (try dsimp only at hSw); go_simp <;> with_reducible rfl)
                  simp only [Act.put, List.setIfInBounds_toArray, List.set_cons_zero, List.set_cons_succ]
                  refine wpAnyH_take (i := 14) (v := ?_) (get1 (get1 (get1 (get1 (get1 (get1 (get1 (get1 (get1 (get1 (get1 (get1 (get1 (get1 (get0 _ _))))))))))))))) (by kernel_rfl) (by kernel_rfl) (by kernel_rfl) (fun _ _ _ h => h) (Or.inl ⟨by rfl, ?_⟩) (by assumption) ?_
                  rotate_left
                  · (intro w hSw; (try dsimp only at hSw); go_simp <;> with_reducible rfl)
                  simp only [Act.put, List.setIfInBounds_toArray, List.set_cons_zero, List.set_cons_succ]
                  refine wpAnyH_done (by kernel_rfl) ?_ _
                  clear hHeld
                  go_wp2
                  exact ⟨rfl, .inr ⟨HF.out, _, rfl⟩, HC.out.g⟩
                | true =>
                  have HF : Hid (rdObj s = some ⟨code, data, syms, rels⟩) := by show _ = _; simp only [rdObj, HBODY.out]; rw [if_pos ⟨HJ.out, hm⟩]
                  clear hm
                  simp only [if_true]
                  try go_wp2_with fail
                  refine hK.out _ _ HSC.out (fun hHeld => ?_)
                  clear hK K
                  try simp only [Act.put, List.setIfInBounds_toArray, List.set_cons_zero, List.set_cons_succ]
                  refine wpAnyH_take (i := 13) (v := ?_) (get1 (get1 (get1 (get1 (get1 (get1 (get1 (get1 (get1 (get1 (get1 (get1 (get1 (get0 _ _)))))))))))))) (by kernel_rfl) (by kernel_rfl) (by kernel_rfl) (fun _ _ _ h => h) (Or.inl ⟨by rfl, ?_⟩) (by assumption) ?_
                  rotate_left
                  · (intro w hSw; (try dsimp only at hSw); go_simp <;> with_reducible rfl)
                  simp only [Act.put, List.setIfInBounds_toArray, List.set_cons_zero, List.set_cons_succ]
                  refine wpAnyH_take (i := 14) (v := ?_) (get1 (get1 (get1 (get1 (get1 (get1 (get1 (get1 (get1 (get1 (get1 (get1 (get1 (get1 (get0 _ _))))))))))))))) (by kernel_rfl) (by kernel_rfl) (by kernel_rfl) (fun _ _ _ h => h) (Or.inl ⟨by rfl, ?_⟩) (by assumption) ?_
                  rotate_left
                  · (intro w hSw; (try dsimp only at hSw); go_simp <;> with_reducible rfl)
                  simp only [Act.put, List.setIfInBounds_toArray, List.set_cons_zero, List.set_cons_succ]
                  refine wpAnyH_done (by kernel_rfl) ?_ _
                  clear hHeld
                  have p0 := HC.out.c0
                  have p1 := HC.out.ck 0 _ rfl
                  have p2 := HC.out.ck 1 _ rfl
                  have p3 := HC.out.ck 2 _ rfl
                  have o0 := HC.out.res 0 _ rfl
                  have o1 := HC.out.res 1 _ rfl
                  have o2 := HC.out.res 2 _ rfl
                  have o3 := HC.out.res 3 _ rfl
                  have f0 := HC.out.rz 0
                  have f1 := HC.out.rz 1
                  have f2 := HC.out.rz 2
                  have f3 := HC.out.rz 3
                  go_wp2
                  refine bodyPost_ret (v := .agg #[.string code, .slice a1 n3 c1, .slice a2 n5 c2, .slice a3 n7 c3]) (by simp [results, Tryd.results73, go_sem, o0, o1, o2, o3]) rfl ?_
                  have R := (((HC.out.ret 0 (by simp) (.string code)).ret 1 (by simp) (.slice a1 n3 c1)).ret 2 (by simp) (.slice a2 n5 c2)).ret 3 (by simp) (.slice a3 n7 c3)
                  have l1 := many_len F4.out
                  have l2 := many_len F6.out
                  have l3 := many_len F8.out
                  refine ⟨.inl ⟨_, HF.out, _, rfl, ⟨⟨_, _, _, rfl, ?_, ?_, ?_⟩, HIN.out⟩⟩, R.g⟩
                  · show World.ownsRow _ _ _ _ _ data.length _
                    rw [l1]; exact (R.own 0 _ rfl).1
                  · show World.ownsRow _ _ _ _ _ syms.length _
                    rw [l2]; exact (R.own 1 _ rfl).1
                  · show World.ownsRow _ _ _ _ _ rels.length _
                    rw [l3]; exact (R.own 2 _ rfl).1

end Go.Proofs.YtffokdldgdjkhaaDoor

/- What Read comes to: a reader of its own, object, and the panic that is recovered. -/
namespace Go.Proofs.YtffokdldgdjkhaaDoor
set_option maxRecDepth 100000
open Go.RowKit Go.Maps Go.Lib
set_option linter.unusedVariables false

theorem catch_panicking (b0 b1 : Nat) (hne : b0 ≠ b1) (u : TypeId) (pv : Value) (older : List PanicEntry) (w : World) (v0 v1 v2 v3 v4 : Value) (c0 : w.cell? ⟨b0, 0, none⟩ = some v0) (c1 : w.cell? ⟨b0, 1, none⟩ = some v1) (c2 : w.cell? ⟨b0, 2, none⟩ = some v2) (c3 : w.cell? ⟨b0, 3, none⟩ = some v3) (c4 : w.cell? ⟨b1, 0, none⟩ = some v4) (z0 : ∀ o, w.frozen? ⟨b0, o, none⟩ = false) (z1 : ∀ o, w.frozen? ⟨b1, o, none⟩ = false) :
    CallsD Tryd.prog 72 #[.pointer (some ⟨b0, 0, none⟩), .pointer (some ⟨b1, 0, none⟩)] (.panicking ({ v := .iface u pv, recovered := false } :: older)) w fun e u' w' =>
      e = .returned (.tuple #[]) ∧ u' = .panicking ({ v := .iface u pv, recovered := true } :: older) ∧ w' = ((((w.setCell ⟨b0, 0, none⟩ (.string { data := #[] })).setCell ⟨b0, 1, none⟩ (.slice none 0 0)).setCell ⟨b0, 2, none⟩ (.slice none 0 0)).setCell ⟨b0, 3, none⟩ (.slice none 0 0)).setCell ⟨b1, 0, none⟩ (.int .i64 9) := by
  refine callsD_of_wpS Tryd.func72 rfl fun k₀ cs hu => ?_
  apply wpS_seq
  apply wpS_region
  simp [wpOpsS, go_sem, recoverD, hu, Tryd.ntmps72, Exit.thenS]
  refine wpS_cond (t := true) (by simp [Act.eval, Array.replicate]) ?_
  simp only [if_true]
  apply wpS_region
  simp [wpOpsS, go_sem, c0, c1, c2, c3, c4, z0, z1, bodyPostS, results, Tryd.results72]

theorem catch_idle (b0 b1 : Nat) (w : World) :
    CallsD Tryd.prog 72 #[.pointer (some ⟨b0, 0, none⟩), .pointer (some ⟨b1, 0, none⟩)] .returning w fun e u' w' => e = .returned (.tuple #[]) ∧ u' = .returning ∧ w' = w := by
  refine callsD_of_wpS Tryd.func72 rfl fun c₀ cs hu => ?_
  apply wpS_seq
  apply wpS_region
  simp [wpOpsS, go_sem, recoverD, hu, Tryd.ntmps72, Exit.thenS]
  refine wpS_cond (t := false) (by simp [Act.eval, Array.replicate]) ?_
  simp only [Bool.false_eq_true, if_false]
  refine wpS_of_wp (wp_skip ?_)
  cases c₀
  simp_all [bodyPostS, results, Tryd.results72]

def noObjV : Value := .agg #[.string { data := #[] }, .slice none 0 0, .slice none 0 0, .slice none 0 0]
theorem grown_toBelow {w x : World} {B br : Nat} (h : w.grownBy x (some br)) (hB : B ≤ w.heap.size) (hb : B ≤ br) : Below B w x := (Below.refl B w).grown h hB (fun b e => by cases e; exact hb)

theorem own_base {w : World} {B B' : Nat} {v : Value} {e : TypeId} {size n : Nat} {xs : List Value} (o : w.ownsRow B e size v n xs) (h : B' ≤ B) : w.ownsRow B' e size v n xs := by
  refine ⟨o.1, ?_⟩
  rcases o.2 with h1 | ⟨g, cap, cur, h1, h2, h3⟩
  · exact .inl h1
  · exact .inr ⟨g, cap, cur, h1, Nat.le_trans h h2, h3⟩
theorem ObjF.far {B : Nat} {w : World} {v : Value} {o : ObjD} (h : ObjF B w v o) (a : Addr) (u : Value) (ha : a.block < B) : ObjF B (w.setCell a u) v o := by
  obtain ⟨v1, v2, v3, e, o1, o2, o3⟩ := h.form
  exact ⟨⟨v1, v2, v3, e, o1.kept (gb_setO w a u) (.inr fun e => by have := (o1.lt _ e).1; omega), o2.kept (gb_setO w a u) (.inr fun e => by have := (o2.lt _ e).1; omega), o3.kept (gb_setO w a u) (.inr fun e => by have := (o3.lt _ e).1; omega)⟩, h.isin⟩
theorem ObjF.mono {B B' : Nat} {w : World} {v : Value} {o : ObjD} (h : ObjF B w v o) (hb : B' ≤ B) : ObjF B' w v o := by
  obtain ⟨v1, v2, v3, e, o1, o2, o3⟩ := h.form
  exact ⟨⟨v1, v2, v3, e, own_base o1 hb, own_base o2 hb, own_base o3 hb⟩, h.isin⟩
theorem below_five {B b0 b1 : Nat} {w y : World} (h : Below B w y) (h0 : B ≤ b0) (h1 : B ≤ b1) (u0 u1 u2 u3 u4 : Value) : Below B w (((((y.setCell ⟨b0, 0, none⟩ u0).setCell ⟨b0, 1, none⟩ u1).setCell ⟨b0, 2, none⟩ u2).setCell ⟨b0, 3, none⟩ u3).setCell ⟨b1, 0, none⟩ u4) :=
  ((((h.setCell h0 u0).setCell h0 u1).setCell h0 u2).setCell h0 u3).setCell h1 u4

set_option maxRecDepth 100000 in
set_option maxHeartbeats 4000000 in
theorem read_any (s : ByteArray) (hs : s.size ≤ maxLen) (w : World) :
    Calls Tryd.prog 51 #[.string s] w fun e w' => ((∃ o, rdObj s = some o ∧ ∃ v, e = .returned (.tuple #[v, .int .i64 0]) ∧ ObjF w.heap.size w' v o) ∨ (rdObj s = none ∧ e = .returned (.tuple #[noObjV, .int .i64 9]))) ∧ Below w.heap.size w w' := by
  have hmf : ∀ (fn : Fn) (first cap : Array Value) (w : World), (Instr.makeFunc fn first cap).run Tryd.prog w = .ok (.func fn first cap) w := fun _ _ _ _ => rfl
  obtain ⟨W1, hW1⟩ : ∃ W1, w.alloc (.cells #[.string { data := #[] }, .slice none 0 0, .slice none 0 0, .slice none 0 0] 67) = W1 := ⟨_, rfl⟩
  have s1 : W1.heap.size = w.heap.size + 1 := by subst hW1; simp
  have b1 : Below w.heap.size w W1 := by subst hW1; exact bl_one _ _
  obtain ⟨W2, hW2⟩ : ∃ W2, W1.alloc (.cells #[.int .i64 0] 28) = W2 := ⟨_, rfl⟩
  have s2 : W2.heap.size = w.heap.size + 1 + 1 := by subst hW2; simp; omega
  have b2 : Below W1.heap.size W1 W2 := by subst hW2; exact bl_one _ _
  obtain ⟨W3, hW3⟩ : ∃ W3, W2.alloc (.cells #[.string s, .int .i64 0] 146) = W3 := ⟨_, rfl⟩
  have s3 : W3.heap.size = w.heap.size + 1 + 1 + 1 := by subst hW3; simp; omega
  have b3 : Below W2.heap.size W2 W3 := by subst hW3; exact bl_one _ _
  have HBL : Hid (Below w.heap.size w W3) := (b1.trans (b2.mono (by omega))).trans (b3.mono (by omega))
  have HR : Hid (RdV W3 (w.heap.size + 1 + 1) s 0) := ⟨by subst hW3; exact cell_last s2.symm rfl, by subst hW3; exact cell_last s2.symm rfl, fun o => by subst hW3; exact World.frozen?_alloc_at _ _ _ _ s2.symm, Nat.zero_le _, hs⟩
  have HC : Hid (Cells W3 w.heap.size [.string { data := #[] }, .slice none 0 0, .slice none 0 0, .slice none 0 0]) := fun j u hu => cell_thru b3 (cell_thru b2 (by subst hW1; exact cell_last rfl (by simpa using hu)))
  have HE : Hid (W3.cell? ⟨w.heap.size + 1, 0, none⟩ = some (.int .i64 0)) := cell_thru b3 (by subst hW2; exact cell_last s1.symm rfl)
  have HZ0 : Hid (∀ o, W3.frozen? ⟨w.heap.size, o, none⟩ = false) := fun o => by
    rw [b3.frozen (p := ⟨w.heap.size, o, none⟩) (by show w.heap.size < _; omega), b2.frozen (p := ⟨w.heap.size, o, none⟩) (by show w.heap.size < _; omega)]
    subst hW1; exact World.frozen?_alloc_at _ _ _ _ rfl
  have HZ1 : Hid (∀ o, W3.frozen? ⟨w.heap.size + 1, o, none⟩ = false) := fun o => by
    rw [b3.frozen (p := ⟨w.heap.size + 1, o, none⟩) (by show w.heap.size + 1 < _; omega)]
    subst hW2; exact World.frozen?_alloc_at _ _ _ _ s1.symm
  clear b1 b2 b3
  go_enter_defers Tryd.func51, Tryd.ntmps51
  go_wp2_with fail
  refine (robj_any HR.out).mono ?_
  rintro e y ⟨⟨o, ho, v, rfl, hF⟩ | ⟨ho, c, rfl⟩, hg⟩
  · obtain ⟨v1, v2, v3, rfl, o1, o2, o3⟩ := hF.form
    obtain ⟨a1, c1, rfl⟩ := own_slice o1
    obtain ⟨a2, c2, rfl⟩ := own_slice o2
    obtain ⟨a3, c3, rfl⟩ := own_slice o3
    have q0 := grown_cell hg (HC.out 0 _ rfl) (by omega)
    have q1 := grown_cell hg (HC.out 1 _ rfl) (by omega)
    have q2 := grown_cell hg (HC.out 2 _ rfl) (by omega)
    have q3 := grown_cell hg (HC.out 3 _ rfl) (by omega)
    have q4 := grown_cell hg HE.out (by omega)
    have z0 := fun o => grown_froz (o := o) hg (by omega) (by omega) (HZ0.out o)
    have z1 := fun o => grown_froz (o := o) hg (by omega) (by omega) (HZ1.out o)
    have HO : Hid _ := ho
    have HF : Hid _ := hF
    have HG : Hid _ := hg
    have HIN : Hid _ := hF.isin
    have O1 : Hid _ := o1
    have O2 : Hid _ := o2
    have O3 : Hid _ := o3
    clear ho hF hg o1 o2 o3
    go_wp2
    refine leaves_cons (f := 72) (args := #[.pointer (some ⟨w.heap.size, 0, none⟩), .pointer (some ⟨w.heap.size + 1, 0, none⟩)]) (by simp) (by simp [go_sem]) ?_
    refine (catch_idle w.heap.size (w.heap.size + 1) _).mono ?_
    rintro e u' w'' ⟨rfl, rfl, rfl⟩
    simp [Leaves, settle, results, Tryd.results51, go_sem, q0, q1, q2, q3, q4]
    have hl0 : w.heap.size < W3.heap.size + 1 := by omega
    have hl1 : w.heap.size + 1 < W3.heap.size + 1 := by omega
    refine ⟨⟨o, HO.out, (((((HF.out.far _ _ hl0).far _ _ hl0).far _ _ hl0).far _ _ hl0).far _ _ hl1).mono (by omega)⟩, below_five (HBL.out.trans (grown_toBelow HG.out (by omega) (by omega))) (Nat.le_refl _) (Nat.le_succ _) _ _ _ _ _⟩
  · have q0 := grown_cell hg (HC.out 0 _ rfl) (by omega)
    have q1 := grown_cell hg (HC.out 1 _ rfl) (by omega)
    have q2 := grown_cell hg (HC.out 2 _ rfl) (by omega)
    have q3 := grown_cell hg (HC.out 3 _ rfl) (by omega)
    have q4 := grown_cell hg HE.out (by omega)
    have z0 := fun o => grown_froz (o := o) hg (by omega) (by omega) (HZ0.out o)
    have z1 := fun o => grown_froz (o := o) hg (by omega) (by omega) (HZ1.out o)
    have HO : Hid _ := ho
    have HG : Hid _ := hg
    clear ho hg
    go_wp2
    refine leaves_cons (f := 72) (args := #[.pointer (some ⟨w.heap.size, 0, none⟩), .pointer (some ⟨w.heap.size + 1, 0, none⟩)]) (by simp) (by simp [go_sem]) ?_
    refine (catch_panicking w.heap.size (w.heap.size + 1) (by omega) _ _ [] _ _ _ _ _ _ q0 q1 q2 q3 q4 z0 z1).mono ?_
    rintro e u' w'' ⟨rfl, rfl, rfl⟩
    simp [Leaves, settle, results, Tryd.results51, go_sem, q0, q1, q2, q3, q4]
    exact ⟨⟨HO.out, rfl⟩, below_five (HBL.out.trans (grown_toBelow HG.out (by omega) (by omega))) (Nat.le_refl _) (Nat.le_succ _) _ _ _ _ _⟩

end Go.Proofs.YtffokdldgdjkhaaDoor

/- What the document's SameData, SameSyms and Same come to. (Written by gen_same.py.) -/
namespace Go.Proofs.YtffokdldgdjkhaaDoor
set_option maxRecDepth 100000
open Go.RowKit Go.Maps Go.Lib
set_option linter.unusedVariables false

theorem bl_drewN {B : Nat} {x y : World} (h : Below B x y) (m : Nat) : Below B x (y.drewN m) := ⟨h.os, h.tape, h.output, h.size, h.block⟩
theorem list_ext_getD {α : Type} {xs ys : List α} (d : α) (hl : xs.length = ys.length) (h : ∀ i, i < xs.length → xs.getD i d = ys.getD i d) : xs = ys := by
  refine List.ext_getElem hl fun i h1 h2 => ?_
  have := h i h1
  simpa [List.getD, h1, h2] using this
theorem bool_of (P : Prop) : ∃ b : Bool, (b = true ↔ P) := by
  by_cases h : P
  · exact ⟨true, by simp [h]⟩
  · exact ⟨false, by simp [h]⟩
theorem bool_no {b : Bool} {P : Prop} (h : b = true ↔ P) (hn : ¬ P) : b = false := by
  cases b with
  | false => rfl
  | true => exact absurd (h.1 rfl) hn
theorem toList_ne {a b : ByteArray} (h : ¬ a = b) : (a.toList == b.toList) = false := by
  rw [ByteArray.toList_eq, ByteArray.toList_eq]
  exact beq_eq_false_iff_ne.2 (fun e => h (bytes_ext e))
theorem symEq_yes (n : ByteArray) (k p : Int) (w : World) : (Op.equalIn 10000 80 (.agg #[.string n, .int .i64 k, .int .i64 p]) (.agg #[.string n, .int .i64 k, .int .i64 p])).run Tryd.prog w = .ok true w := by
  go_simp
theorem symEq_no {n n' : ByteArray} {k p k' p' : Int} (h : ¬ (⟨n, k, p⟩ : Sym) = ⟨n', k', p'⟩) (w : World) : (Op.equalIn 10000 80 (.agg #[.string n, .int .i64 k, .int .i64 p]) (.agg #[.string n', .int .i64 k', .int .i64 p'])).run Tryd.prog w = .ok false w := by
  by_cases h1 : n = n'
  · subst h1
    by_cases h2 : k = k'
    · subst h2
      by_cases h3 : p = p'
      · subst h3; exact absurd rfl h
      · clear h
        go_simp
    · clear h
      go_simp
  · clear h
    have hd := toList_ne h1
    go_simp
theorem relEq_yes (p k : Int) (n : ByteArray) (a : Int) (w : World) : (Op.equalIn 10000 130 (.agg #[.int .i64 p, .int .i64 k, .string n, .int .i64 a]) (.agg #[.int .i64 p, .int .i64 k, .string n, .int .i64 a])).run Tryd.prog w = .ok true w := by
  go_simp
theorem relEq_no {n n' : ByteArray} {k p a k' p' a' : Int} (h : ¬ (⟨p, k, n, a⟩ : Rel) = ⟨p', k', n', a'⟩) (w : World) : (Op.equalIn 10000 130 (.agg #[.int .i64 p, .int .i64 k, .string n, .int .i64 a]) (.agg #[.int .i64 p', .int .i64 k', .string n', .int .i64 a'])).run Tryd.prog w = .ok false w := by
  by_cases h1 : p = p'
  · subst h1
    by_cases h2 : k = k'
    · subst h2
      by_cases h3 : n = n'
      · subst h3
        by_cases h4 : a = a'
        · subst h4; exact absurd rfl h
        · clear h
          go_simp
      · clear h
        have hd := toList_ne h3
        go_simp
    · clear h
      go_simp
  · clear h
    go_simp

set_option maxRecDepth 100000 in
set_option maxHeartbeats 4000000 in
theorem samedata_any {w : World} {a1 a2 : Option Addr} {l1 c1 l2 c2 : Nat} {xs ys : List Int} (h1 : IntsV w a1 l1 c1 xs) (h2 : IntsV w a2 l2 c2 ys) (hm : l1 ≤ maxLen) (bb : Bool) (hbb : bb = true ↔ xs = ys) :
    Calls Tryd.prog 34 #[.slice a1 l1 c1, .slice a2 l2 c2] w fun e w' => e = .returned (.bool bb) ∧ Below w.heap.size w w' := by
  have HBB : Hid _ := hbb
  have H1 : Hid _ := h1
  have H2 : Hid _ := h2
  have hm' : l1 ≤ 9223372036854775807 := by unfold maxLen at hm; omega
  clear h1 h2 hm hbb
  by_cases hl : l1 = l2
  rotate_left
  · have HNO : Hid (¬ xs = ys) := fun e => hl (by rw [← H1.out.count, ← H2.out.count, e])
    have hd : ((l1 : Int) != (l2 : Int)) = true := by simp; omega
    go_enter Tryd.func34, Tryd.ntmps34
    go_wp2
    go_ret
    exact ⟨by rw [bool_no HBB.out HNO.out]; rfl, Below.refl _ _⟩
  subst hl
  have hd : ((l1 : Int) != (l1 : Int)) = false := by simp
  go_enter Tryd.func34, Tryd.ntmps34
  go_wp2_with fail
  go_loopg [5] l1 (fun r iv wq => ∃ (k : Nat), iv = .int .i64 k ∧ k ≤ l1 ∧ l1 - k ≤ r ∧ Hid (∀ j, j < k → xs.getD j 0 = ys.getD j 0) ∧ Hid (Below w.heap.size w wq))
  case atStart => exact ⟨0, rfl, Nat.zero_le _, by omega, (fun j hj => by omega : ∀ j, j < 0 → xs.getD j 0 = ys.getD j 0), Below.refl _ _⟩
  case round =>
    obtain ⟨k, rfl, hk, hr, HAL, HBL⟩ := hrel
    by_cases hlt : k < l1
    · rcases H1.out.cells with h0 | ⟨b, off, hA, hc⟩
      · omega
      rcases H2.out.cells with h0 | ⟨b', off', hA', hc'⟩
      · omega
      have k0 := hc k hlt
      have k0' := hc' k hlt
      have hb0 := World.block_lt_of_cell? w ⟨b, off + k, none⟩ k0
      have hb1 := World.block_lt_of_cell? w ⟨b', off' + k, none⟩ k0'
      have q0 := (HBL.out.cell (p := ⟨b, off + k, none⟩) hb0).trans k0
      have r0 := (HBL.out.cell (p := ⟨b', off' + k, none⟩) hb1).trans k0'
      have HNE : Hid (∀ {x y : Int}, xs.getD k 0 = x → ys.getD k 0 = y → x ≠ y → ¬ xs = ys) := fun hx hy hne e => hne (by rw [← hx, ← hy, e])
      have HEQ : Hid (∀ {x y : Int}, xs.getD k 0 = x → ys.getD k 0 = y → x = y → ∀ j, j < k + 1 → xs.getD j 0 = ys.getD j 0) := fun hx hy he j hj => by
        by_cases hjk : j = k
        · rw [hjk, hx, hy, he]
        · exact HAL.out j (by omega)
      obtain ⟨x, hx⟩ : ∃ x, xs.getD k 0 = x := ⟨_, rfl⟩
      obtain ⟨y, hy⟩ : ∃ y, ys.getD k 0 = y := ⟨_, rfl⟩
      rw [hx] at q0
      rw [hy] at r0
      have HX : Hid _ := hx
      have HY : Hid _ := hy
      subst hA
      subst hA'
      have hii : (k : Int) < l1 := by omega
      have hin : 0 ≤ (k : Int) := by omega
      clear hc hc' k0 k0' hx hy hb0 hb1
      by_cases he : (x : Int) = y
      · have HNX : Hid _ := HEQ.out HX.out HY.out he
        have hde : (x != y) = false := by simp [he]
        clear he
        go_wp2_with fail
        go_quiet (fail)
        go_wp2_with fail
        go_roundg (l1 - (k + 1))
        case measure => omega
        case rel => exact ⟨k + 1, by first | rfl | (congr 1; omega), by omega, Nat.le_refl _, HNX.out, bl_drewN HBL.out _⟩
      · have HNO : Hid _ := HNE.out HX.out HY.out he
        have hde : (x != y) = true := by simp [he]
        clear he
        go_wp2_with fail
        go_quiet (fail)
        go_wp2
        go_ret
        exact ⟨by rw [bool_no HBB.out HNO.out]; rfl, bl_drewN HBL.out _⟩
    · obtain rfl : l1 = k := by omega
      have HYES : Hid (xs = ys) := list_ext_getD 0 (by rw [H1.out.count, H2.out.count]) (fun i hi => HAL.out i (by rw [← H1.out.count]; exact hi))
      go_wp2_with fail
      go_ret
      exact ⟨by rw [HBB.out.2 HYES.out]; rfl, HBL.out⟩

set_option maxRecDepth 100000 in
set_option maxHeartbeats 4000000 in
theorem samesyms_any {w : World} {a1 a2 : Option Addr} {l1 c1 l2 c2 : Nat} {xs ys : List Sym} (h1 : SymsV w a1 l1 c1 xs) (h2 : SymsV w a2 l2 c2 ys) (hm : l1 ≤ maxLen) (bb : Bool) (hbb : bb = true ↔ xs = ys) :
    Calls Tryd.prog 35 #[.slice a1 l1 c1, .slice a2 l2 c2] w fun e w' => e = .returned (.bool bb) ∧ Below w.heap.size w w' := by
  have HBB : Hid _ := hbb
  have H1 : Hid _ := h1
  have H2 : Hid _ := h2
  have hm' : l1 ≤ 9223372036854775807 := by unfold maxLen at hm; omega
  clear h1 h2 hm hbb
  by_cases hl : l1 = l2
  rotate_left
  · have HNO : Hid (¬ xs = ys) := fun e => hl (by rw [← H1.out.count, ← H2.out.count, e])
    have hd : ((l1 : Int) != (l2 : Int)) = true := by simp; omega
    go_enter Tryd.func35, Tryd.ntmps35
    go_wp2
    go_ret
    exact ⟨by rw [bool_no HBB.out HNO.out]; rfl, Below.refl _ _⟩
  subst hl
  have hd : ((l1 : Int) != (l1 : Int)) = false := by simp
  go_enter Tryd.func35, Tryd.ntmps35
  go_wp2_with fail
  go_loopg [5] l1 (fun r iv wq => ∃ (k : Nat), iv = .int .i64 k ∧ k ≤ l1 ∧ l1 - k ≤ r ∧ Hid (∀ j, j < k → xs.getD j noSym = ys.getD j noSym) ∧ Hid (Below w.heap.size w wq))
  case atStart => exact ⟨0, rfl, Nat.zero_le _, by omega, (fun j hj => by omega : ∀ j, j < 0 → xs.getD j noSym = ys.getD j noSym), Below.refl _ _⟩
  case round =>
    obtain ⟨k, rfl, hk, hr, HAL, HBL⟩ := hrel
    by_cases hlt : k < l1
    · rcases H1.out.cells with h0 | ⟨b, off, hA, hc⟩
      · omega
      rcases H2.out.cells with h0 | ⟨b', off', hA', hc'⟩
      · omega
      obtain ⟨k0, k1, k2⟩ := hc k hlt
      obtain ⟨k0', k1', k2'⟩ := hc' k hlt
      have hb0 := World.block_lt_of_cell? w ⟨b, off + k * 3, none⟩ k0
      have hb1 := World.block_lt_of_cell? w ⟨b', off' + k * 3, none⟩ k0'
      have q0 := (HBL.out.cell (p := ⟨b, off + k * 3, none⟩) hb0).trans k0
      have r0 := (HBL.out.cell (p := ⟨b', off' + k * 3, none⟩) hb1).trans k0'
      have q1 := (HBL.out.cell (p := ⟨b, off + k * 3 + 1, none⟩) hb0).trans k1
      have r1 := (HBL.out.cell (p := ⟨b', off' + k * 3 + 1, none⟩) hb1).trans k1'
      have q2 := (HBL.out.cell (p := ⟨b, off + k * 3 + 2, none⟩) hb0).trans k2
      have r2 := (HBL.out.cell (p := ⟨b', off' + k * 3 + 2, none⟩) hb1).trans k2'
      have HNE : Hid (∀ {x y : Sym}, xs.getD k noSym = x → ys.getD k noSym = y → x ≠ y → ¬ xs = ys) := fun hx hy hne e => hne (by rw [← hx, ← hy, e])
      have HEQ : Hid (∀ {x y : Sym}, xs.getD k noSym = x → ys.getD k noSym = y → x = y → ∀ j, j < k + 1 → xs.getD j noSym = ys.getD j noSym) := fun hx hy he j hj => by
        by_cases hjk : j = k
        · rw [hjk, hx, hy, he]
        · exact HAL.out j (by omega)
      obtain ⟨⟨xn, xk, xp⟩, hx⟩ : ∃ x, xs.getD k noSym = x := ⟨_, rfl⟩
      obtain ⟨⟨yn, yk, yp⟩, hy⟩ : ∃ y, ys.getD k noSym = y := ⟨_, rfl⟩
      rw [hx] at q0 q1 q2
      rw [hy] at r0 r1 r2
      simp only at q0 r0 q1 r1 q2 r2
      have HX : Hid _ := hx
      have HY : Hid _ := hy
      subst hA
      subst hA'
      have hii : (k : Int) < l1 := by omega
      have hin : 0 ≤ (k : Int) := by omega
      clear hc hc' k0 k0' k1 k1' k2 k2' hx hy hb0 hb1
      by_cases he : (⟨xn, xk, xp⟩ : Sym) = ⟨yn, yk, yp⟩
      · have HNX : Hid _ := HEQ.out HX.out HY.out he
        injection he with en ek ep
        subst en
        subst ek
        subst ep
        have hde := fun w => symEq_yes xn xk xp w
        go_wp2_with fail
        go_quiet (fail)
        go_wp2_with fail
        go_roundg (l1 - (k + 1))
        case measure => omega
        case rel => exact ⟨k + 1, by first | rfl | (congr 1; omega), by omega, Nat.le_refl _, HNX.out, bl_drewN HBL.out _⟩
      · have HNO : Hid _ := HNE.out HX.out HY.out he
        have hde := fun w => symEq_no he w
        clear he
        go_wp2_with fail
        go_quiet (fail)
        go_wp2
        go_ret
        exact ⟨by rw [bool_no HBB.out HNO.out]; rfl, bl_drewN HBL.out _⟩
    · obtain rfl : l1 = k := by omega
      have HYES : Hid (xs = ys) := list_ext_getD noSym (by rw [H1.out.count, H2.out.count]) (fun i hi => HAL.out i (by rw [← H1.out.count]; exact hi))
      go_wp2_with fail
      go_ret
      exact ⟨by rw [HBB.out.2 HYES.out]; rfl, HBL.out⟩

end Go.Proofs.YtffokdldgdjkhaaDoor

/- Objects that may be, their forms: what the laws need. No program in sight. -/
namespace Go.Proofs.YtffokdldgdjkhaaDoor
set_option maxRecDepth 100000
open Go.RowKit Go.Maps Go.Lib
set_option linter.unusedVariables false

theorem sym_in {cl dl : Nat} {s : Sym} (h : symOk cl dl s = true) (h1 : cl ≤ 65536) (h2 : dl ≤ 4096) : SymIn s := by
  unfold symOk nameOk at h
  simp only [Bool.and_eq_true, decide_eq_true_eq] at h
  obtain ⟨⟨a1, a2⟩, a3, a4⟩ := h
  unfold roomOf at a4
  refine ⟨a2, ?_, a3, ?_⟩
  · split at a4
    · omega
    · split at a4
      · omega
      · omega
  · split at a4
    · omega
    · split at a4
      · omega
      · omega
theorem rel_in {cl : Nat} {fr : Int} {r : Rel} (h : relOk cl fr r = true) (h0 : 0 ≤ fr) (h1 : cl ≤ 65536) (hw : (Lit.int .i64 r.add).wf = true) : RelIn r ∧ 0 ≤ r.pos + 4 := by
  unfold relOk nameOk addOk at h
  simp only [Bool.and_eq_true, decide_eq_true_eq] at h
  obtain ⟨⟨a1, a2⟩, ⟨a3, a4⟩, a5⟩ := h
  refine ⟨⟨⟨by omega, by omega⟩, ?_, a4, hw⟩, by omega⟩
  split at a5
  · omega
  · split at a5
    · omega
    · cases a5
theorem may_in {o : ObjD} (hm : o.may = true) (hd : ∀ x ∈ o.data, (Lit.int .i64 x).wf = true) (hr : ∀ x ∈ o.rels, (Lit.int .i64 x.add).wf = true) : ObjIn o := by
  obtain ⟨m1, m2, m3, m4⟩ := may_parts hm
  unfold symsOk at m3
  unfold relsOk at m4
  simp only [Bool.and_eq_true, decide_eq_true_eq, List.all_eq_true, List.mem_range] at m3 m4
  refine ⟨m1, ⟨m2, hd⟩, ⟨m3.1, fun x hx => ?_⟩, ⟨m4.1, ?_⟩⟩
  · obtain ⟨i, hi, rfl⟩ := getD_of_mem hx noSym
    have := m3.2 i hi
    unfold symAt at this
    rw [Bool.and_eq_true] at this
    exact sym_in this.2 m1 m2
  · have key : ∀ i, i < o.rels.length → RelIn (o.rels.getD i noRel) ∧ 0 ≤ (o.rels.getD i noRel).pos + 4 := by
      intro i
      induction i with
      | zero => exact fun hi => rel_in (m4.2 0 hi) (by simp [freeAt]) m1 (hr _ (by simp [List.getD, hi]))
      | succ i ih =>
        intro hi
        have h0 := (ih (by omega)).2
        exact rel_in (m4.2 (i + 1) hi) (by simpa [freeAt] using h0) m1 (hr _ (by simp [List.getD, hi]))
    intro x hx
    obtain ⟨i, hi, rfl⟩ := getD_of_mem hx noRel
    exact (key i hi).1
theorem txt_bd {s : ByteArray} (h : s.size ≤ 65536) : ∀ n ∈ txt s, 0 ≤ n ∧ n ≤ 255 := fun n hn => by
  rcases List.mem_append.1 hn with h1 | h1
  · exact W.put_bd _ (by omega) (by omega) n h1
  · exact nums_bd s n h1
theorem form_bd {o : ObjD} (h : ObjIn o) : ∀ n ∈ formB o, 0 ≤ n ∧ n ≤ 255 := fun n hn => by
  obtain ⟨h1, ⟨h2, h3⟩, ⟨h4, h5⟩, ⟨h6, h7⟩⟩ := h
  simp only [formB, List.mem_append, List.mem_flatMap] at hn
  rcases hn with (((hn | hn) | (hn | ⟨x, hx, hn⟩)) | (hn | ⟨x, hx, hn⟩)) | (hn | ⟨x, hx, hn⟩)
  · simp at hn; omega
  · exact txt_bd h1 n hn
  · exact W.put_bd _ (by omega) (by omega) n hn
  · exact (long_len (h3 x hx)).2 n hn
  · exact W.put_bd _ (by omega) (by omega) n hn
  · obtain ⟨a1, a2, a3⟩ := h5 x hx
    simp only [symB, List.mem_append, List.mem_singleton] at hn
    rcases hn with hn | hn | hn
    · exact txt_bd (by omega) n hn
    · omega
    · exact W.put_bd _ (by omega) (by omega) n hn
  · exact W.put_bd _ (by omega) (by omega) n hn
  · obtain ⟨a1, a2, a3, a4⟩ := h7 x hx
    simp only [relB, List.mem_append, List.mem_singleton] at hn
    rcases hn with hn | hn | hn | hn
    · exact W.put_bd _ (by omega) (by omega) n hn
    · omega
    · exact txt_bd (by omega) n hn
    · exact (long_len a4).2 n hn
/-- The form of an object. -/
def wrB (o : ObjD) : ByteArray := strOfNums (formB o)
theorem nums_wr {o : ObjD} (h : ObjIn o) : nums (wrB o) = formB o := nums_of (form_bd h)
theorem rd_wr {o : ObjD} (h : ObjIn o) (hm : o.may = true) : rdObj (wrB o) = some o := obj_compl h hm (nums_wr h)
theorem wr_rd {s : ByteArray} {o : ObjD} (h : rdObj s = some o) : wrB o = s := by
  unfold wrB
  rw [← (obj_sound h).1, str_nums]
theorem wr_inj {o p : ObjD} (ho : ObjIn o) (hp : ObjIn p) (hm : o.may = true) (hn : p.may = true) (h : wrB o = wrB p) : o = p := by
  have h1 := rd_wr ho hm
  rw [h, rd_wr hp hn] at h1
  exact (Option.some.inj h1).symm
theorem wr_size {o : ObjD} (h : ObjIn o) : (wrB o).size ≤ 100000000 := by
  have h0 := nums_wr h
  rw [← nums_len, h0]
  obtain ⟨h1, ⟨h2, h3⟩, ⟨h4, h5⟩, ⟨h6, h7⟩⟩ := h
  have a1 := nums_len o.code
  have a2 := W.put_length (o.code.size : Int)
  have a3 := W.put_length (o.data.length : Int)
  have a4 := W.put_length (o.syms.length : Int)
  have a5 := W.put_length (o.rels.length : Int)
  have b1 := flat_len long 8 o.data (fun x hx => by have := (long_len (h3 x hx)).1; omega)
  have b2 := flat_len symB 1100 o.syms (fun x hx => symB_len (by have := (h5 x hx).1; omega))
  have b3 := flat_len relB 1100 o.rels (fun x hx => relB_len (by have := (h7 x hx).2.2.1; omega) (h7 x hx).2.2.2)
  simp only [formB, txt, List.length_append, List.length_cons, List.length_nil]
  omega
/-- Of a form a part, or a form with more behind it, is none's. -/
theorem rd_cut {o : ObjD} (h : ObjIn o) {k : Nat} (hk : k < (wrB o).size) : rdObj (sub (wrB o) 0 k) = none := by
  cases e : rdObj (sub (wrB o) 0 k) with
  | none => rfl
  | some p =>
    obtain ⟨h1, h2, h3⟩ := obj_sound e
    rw [nums_sub] at h1
    have h4 : formB o = formB p ++ (formB o).drop k := by
      rw [← h1, ← nums_wr h]
      exact (List.take_append_drop k _).symm
    have h5 := form_cut h h2 (form_bd h) h4
    have h6 := congrArg List.length h5
    have h7 := nums_len (wrB o)
    rw [nums_wr h] at h7
    rw [List.length_drop, List.length_nil] at h6
    omega
theorem rd_more {o : ObjD} (h : ObjIn o) (r : ByteArray) (hr : 0 < r.size) : rdObj (wrB o ++ r) = none := by
  cases e : rdObj (wrB o ++ r) with
  | none => rfl
  | some p =>
    obtain ⟨h1, h2, h3⟩ := obj_sound e
    have hn : nums (wrB o ++ r) = formB o ++ nums r := by
      rw [← nums_wr h]
      unfold nums W.tail
      simp
    rw [hn] at h1
    have h5 := form_cut h2 h (form_bd h2) h1.symm
    have h6 := congrArg List.length h5
    rw [nums_len, List.length_nil] at h6
    omega
theorem ObjV.isin {w : World} {v : Value} {o : ObjD} (h : ObjV w v o) (hm : o.may = true) : ObjIn o := by
  obtain ⟨a1, l1, c1, a2, l2, c2, a3, l3, c3, e, hs, h1, h2, h3⟩ := h.form
  exact may_in hm h1.fits (fun x hx => (h3.fits x hx).2.2.2)

end Go.Proofs.YtffokdldgdjkhaaDoor

/- What package image's looks at code come to: starts, jumps, symbols, addresses. -/
namespace Go.Proofs.YtffokdldgdjkhaaDoor
set_option maxRecDepth 100000
open Go.RowKit Go.Maps Go.Lib
set_option linter.unusedVariables false
set_option linter.unusedSimpArgs false

def noQ : I.Q := ⟨0, 0, 0, 0⟩
/-- Instructions as they lie. -/
structure QsV (w : World) (a : Option Addr) (len cap : Nat) (l : List I.Q) : Prop where
  count : l.length = len
  cells : len = 0 ∨ ∃ b off, a = some ⟨b, off, none⟩ ∧ ∀ i, i < len → w.cell? ⟨b, off + i * 4, none⟩ = some (.int .i64 (l.getD i noQ).op) ∧ w.cell? ⟨b, off + i * 4 + 1, none⟩ = some (.int .i64 (l.getD i noQ).a) ∧ w.cell? ⟨b, off + i * 4 + 2, none⟩ = some (.int .i64 (l.getD i noQ).b) ∧ w.cell? ⟨b, off + i * 4 + 3, none⟩ = some (.int .i64 (l.getD i noQ).n)
theorem QsV.below {w w1 : World} {a : Option Addr} {len cap : Nat} {l : List I.Q} (h : QsV w a len cap l) (hb : Below w.heap.size w w1) : QsV w1 a len cap l := by
  refine ⟨h.count, ?_⟩
  rcases h.cells with h0 | ⟨b, off, ha, hc⟩
  · exact .inl h0
  · exact .inr ⟨b, off, ha, fun i hi => ⟨cell_thru hb (hc i hi).1, cell_thru hb (hc i hi).2.1, cell_thru hb (hc i hi).2.2.1, cell_thru hb (hc i hi).2.2.2⟩⟩
def goesB (op : Int) : Bool := decide (op = 20 ∨ op = 21 ∨ op = 22 ∨ op = 23 ∨ op = 25 ∨ op = 26 ∨ op = 27)
def stL (l : List I.Q) (k : Nat) : Int := ((l.take k).map fun q => I.size q.op).sum
def startsL (l : List I.Q) (k : Nat) : List Int := (List.range k).map (stL l)
def reachAt (l : List I.Q) (k : Nat) : Bool := !(goesB (l.getD k noQ).op) || (startsL l l.length).contains (IntKind.i64.wrap (stL l (k + 1) + (l.getD k noQ).n))
def reachOk (l : List I.Q) : Bool := (List.range l.length).all (reachAt l)
def bearAt (zs : List Int) (s : Sym) : Bool := decide (s.kind = 2) || zs.contains s.pos
def bearOk (zs : List Int) (ss : List Sym) : Bool := (List.range ss.length).all (fun i => bearAt zs (ss.getD i noSym))
def addrAt (words : Nat) (q : I.Q) : Bool := !(decide (q.op = 19)) || (decide (0 ≤ IntKind.i64.wrap (q.n - 1048576)) && (decide (IntKind.i64.wrap (q.n - 1048576) % 8 = 0) && decide (IntKind.i64.wrap (q.n - 1048576) < 8 * (words : Int))))
def addrOk (words : Nat) (l : List I.Q) : Bool := (List.range l.length).all (fun i => addrAt words (l.getD i noQ))

theorem size_bd (op : Int) : 0 ≤ I.size op ∧ I.size op ≤ 10 := by
  by_cases h : 1 ≤ op ∧ op ≤ 33
  · have := I.size_pos h.1 h.2; omega
  · rw [I.size_none (by omega)]; decide
theorem stL_succ (l : List I.Q) {k : Nat} (h : k < l.length) : stL l (k + 1) = stL l k + I.size (l.getD k noQ).op := by
  unfold stL
  rw [List.take_succ_eq_append_getElem h, List.map_append, List.sum_append]
  simp [List.getD, h]
theorem stL_bd (l : List I.Q) : ∀ k, k ≤ l.length → 0 ≤ stL l k ∧ stL l k ≤ 10 * k
  | 0, _ => by simp [stL]
  | k + 1, h => by
    have h1 := stL_bd l k (by omega)
    have h2 := size_bd (l.getD k noQ).op
    rw [stL_succ l (by omega)]
    omega
theorem startsL_succ (l : List I.Q) (k : Nat) : startsL l (k + 1) = startsL l k ++ [stL l k] := by
  unfold startsL; rw [List.range_succ, List.map_append]; rfl

def iset (l : List Int) : DataW Unit := setOf (.agg []) (l.map (Lit.int .i64))
theorem iset_snoc (l : List Int) (x : Int) : iset (l ++ [x]) = (iset l).put (.int .i64 x) (.agg []) := by
  unfold iset
  rw [List.map_append, List.map_cons, List.map_nil, setOf_snoc]
theorem has_iset (l : List Int) (x : Int) : Maps.has (iset l) (.int .i64 x) = l.contains x := by
  unfold iset
  rw [has_setOf _ _ _ (fun y hy => by obtain ⟨_, _, rfl⟩ := List.mem_map.1 hy; trivial), List.any_map]
  induction l with
  | nil => rfl
  | cons y l ih =>
    rw [List.any_cons, List.contains_cons, ih]
    congr 1
    show (Lit.int .i64 y).sameKey (.int .i64 x) = (x == y)
    by_cases e : y = x
    · subst e; simp [Lit.sameKey]
    · have h1 : (x == y) = false := beq_eq_false_iff_ne.2 (fun h => e h.symm)
      rw [h1]
      simp [Lit.sameKey, e]
theorem lawK : Keyed Tryd.prog 2 := int_keyed Tryd.underlying2

theorem goes_any (op : Int) (w : World) : Calls Tryd.prog 46 #[.int .i64 op] w fun e w' => e = .returned (.bool (goesB op)) ∧ w' = w := by
  by_cases h : op = 20 ∨ op = 21 ∨ op = 22 ∨ op = 23 ∨ op = 25 ∨ op = 26 ∨ op = 27
  · have HG : Hid (goesB op = true) := decide_eq_true h
    generalize goesB op = G at HG ⊢
    rcases h with rfl | rfl | rfl | rfl | rfl | rfl | rfl
    all_goals
      go_enter Tryd.func46, Tryd.ntmps46
      go_wp2
      go_ret
      exact ⟨by rw [HG.out]; rfl, rfl⟩
  · have HG : Hid (goesB op = false) := decide_eq_false h
    generalize goesB op = G at HG ⊢
    have h1 : ¬ op = 20 := by omega
    have h2 : ¬ op = 21 := by omega
    have h3 : ¬ op = 22 := by omega
    have h4 : ¬ op = 23 := by omega
    have h5 : ¬ op = 25 := by omega
    have h6 : ¬ op = 26 := by omega
    have h7 : ¬ op = 27 := by omega
    clear h
    go_enter Tryd.func46, Tryd.ntmps46
    go_wp2
    go_ret
    exact ⟨by rw [HG.out]; rfl, rfl⟩

theorem shas_any {w : World} {b n : Nat} {zs : List Int} (h : w.ownsMap Tryd.prog 2 (unitElem (H := Unit)) b n (iset zs)) (z : Int) (hz : (Lit.int .i64 z).wf = true) :
    Calls Tryd.prog 47 #[.map (some b), .int .i64 z] w fun e w' => e = .returned (.bool (zs.contains z)) ∧ Below w.heap.size w w' := by
  have HM : Hid _ := h
  have hkey : keyOf Tryd.prog 2 (.int .i64 z) = some (.int .i64 z) := keyOf_int_mk Tryd.underlying2 hz
  have hH := has_iset zs z
  have hb : Below w.heap.size w (w.alloc (.cells #[] 105)) := bl_one _ _
  generalize zs.contains z = R at hH ⊢
  clear h
  go_enter Tryd.func47, Tryd.ntmps47
  go_wp2_with (first | (at_lookup; refine wpList_lookup_own_unit _ rfl _ _ 69 rfl 2 105 lawK Tryd.underlying69 (zeroU _) b n _ rfl HM.out _ _ rfl hkey ?_) | go_in)
  go_ret
  exact ⟨rfl, hb⟩
end Go.Proofs.YtffokdldgdjkhaaDoor

/- What startsOf, reach, bear and addressesMayBe come to. -/
namespace Go.Proofs.YtffokdldgdjkhaaDoor
set_option maxRecDepth 100000
open Go.RowKit Go.Maps Go.Lib
set_option linter.unusedVariables false
set_option linter.unusedSimpArgs false

theorem map_thru {w w' : World} {b n : Nat} {D : DataW Unit} (h : w.ownsMap Tryd.prog 2 (unitElem (H := Unit)) b n D) (hb : Below w.heap.size w w') : w'.ownsMap Tryd.prog 2 (unitElem (H := Unit)) b n D := h.kept (row := none) ⟨hb.os, hb.tape, hb.output, hb.size, fun k hk _ => hb.block k hk⟩ (by simp)
theorem below_grown {n : Nat} {w x y : World} {b : Nat} (h : Below n w x) (g : x.grownBy y (some b)) (hb : n ≤ b) (hn : n ≤ w.heap.size) : Below n w y :=
  ⟨by rw [g.os, h.os], by rw [g.tape, h.tape], by rw [g.output, h.output], Nat.le_trans h.size g.size, fun k hk => (g.block k (by have := h.size; omega) (by simp; omega)).trans (h.block k hk)⟩

theorem wf_in {z : Int} (h : -9223372036854775808 ≤ z) (h' : z ≤ 9223372036854775807) : (Lit.int .i64 z).wf = true := by
  simp [Lit.wf, IntKind.min, IntKind.max, IntKind.signed, IntKind.bits]; omega
theorem wrap_wf (z : Int) : (Lit.int .i64 (IntKind.i64.wrap z)).wf = true := by
  rw [IntKind.wrap_i64]; exact wf_in (by omega) (by omega)

set_option maxHeartbeats 8000000 in
theorem starts_any {w : World} {a : Option Addr} {len cap : Nat} {l : List I.Q} (h : QsV w a len cap l) (hl : len ≤ 1000000) (ht : Tab w) :
    Calls Tryd.prog 23 #[.slice a len cap] w fun e w' => e = .returned (.map (some w.heap.size)) ∧ w'.ownsMap Tryd.prog 2 (unitElem (H := Unit)) w.heap.size len (iset (startsL l len)) ∧ Below w.heap.size w w' := by
  have hmm := @run_makeMap Tryd.prog
  have HV : Hid _ := h
  have HC : Hid _ := h.count
  have HT : Hid _ := ht
  clear h ht
  obtain ⟨W2, hW2⟩ : ∃ W2, w.alloc (.map #[] 0) = W2 := ⟨_, rfl⟩
  have b2 : Below w.heap.size w W2 := by subst hW2; exact bl_one _ _
  have HB2 : Hid _ := b2
  have HOW : Hid (W2.ownsMap Tryd.prog 2 (unitElem (H := Unit)) w.heap.size 0 (iset [])) := by
    show World.ownsMap _ _ _ _ _ _ _
    rw [← hW2]
    exact World.ownsMap_made _ _ _ _
  clear b2
  go_enter Tryd.func23, Tryd.ntmps23
  go_wp2_with fail
  go_loopg [4, 10] len (fun r av iv wq => ∃ (k : Nat) (z : Int), av = .int .i64 z ∧ iv = .int .i64 k ∧ k ≤ len ∧ len - k ≤ r ∧ 0 ≤ z ∧ z ≤ 10 * k ∧ Hid (z = stL l k) ∧ Hid (wq.ownsMap Tryd.prog 2 (unitElem (H := Unit)) w.heap.size k (iset (startsL l k))) ∧ Hid (Below w.heap.size w wq))
  case atStart => exact ⟨0, 0, rfl, rfl, Nat.zero_le _, by omega, by omega, by omega, rfl, HOW.out, HB2.out⟩
  case round =>
    obtain ⟨k, z, rfl, rfl, hk, hr, hz0, hz1, HZ, HMP, HBL⟩ := hrel
    by_cases hlt : k < len
    · rcases HV.out.cells with h0 | ⟨b, off, hA, hcl⟩
      · omega
      obtain ⟨q0, q1, q2, q3⟩ := hcl k hlt
      have q0 := cell_thru HBL.out q0
      have q1 := cell_thru HBL.out q1
      have q2 := cell_thru HBL.out q2
      have q3 := cell_thru HBL.out q3
      have HTW : Hid _ := Tab.below HT.out HBL.out
      have HSU : Hid _ := stL_succ l (k := k) (by have := HC.out; omega)
      have HSZ : Hid _ := size_bd (l.getD k noQ).op
      obtain ⟨⟨op, qa, qb, qn⟩, hx⟩ : ∃ x, l.getD k noQ = x := ⟨_, rfl⟩
      rw [hx] at q0 q1 q2 q3 HSU HSZ
      simp only at q0 q1 q2 q3 HSU HSZ
      cases hA
      have hii : (k : Int) < len := by omega
      have hin : 0 ≤ (k : Int) := by omega
      have zw : w.heap.size < wr.heap.size := HMP.out.lt
      clear hcl hx
      obtain ⟨Y1, hY1⟩ : ∃ Y1, wr.alloc (.cells #[.int .i64 op, .int .i64 qa, .int .i64 qb, .int .i64 qn] 62) = Y1 := ⟨_, rfl⟩
      have bY : Below wr.heap.size wr Y1 := by subst hY1; exact bl_one _ _
      have g0 : Y1.cell? ⟨wr.heap.size, 0, none⟩ = some (.int .i64 op) := by subst hY1; exact cell_last rfl rfl
      have HMY : Hid _ := map_thru HMP.out bY
      have HBY : Hid (Below w.heap.size w Y1) := HBL.out.trans (bY.mono HBL.out.size)
      have hzw : (Lit.int .i64 z).wf = true := wf_in (by omega) (by omega)
      have hkey : keyOf Tryd.prog 2 (.int .i64 z) = some (.int .i64 z) := keyOf_int_mk Tryd.underlying2 hzw
      have hkm : k < maxLen := by unfold maxLen; omega
      clear bY hzw
      go_wp2_with (first | (at_mapUpdate; refine wpList_mapUpdate_own _ rfl _ _ _ 69 rfl 2 105 lawK Tryd.underlying69 (unitElem (H := Unit)) w.heap.size k _ rfl HMY.out hkm _ _ _ rfl rfl hkey _ [] unitElem_mk ?_; intro w1 hown1 hgrow1; have g0' := hgrow1.cell g0 (by simp; omega); have HO1 : Hid _ := hown1; have HG1 : Hid _ := hgrow1; clear hown1 hgrow1) | fail)
      have B1 : Hid (Below w.heap.size w w1) := below_grown HBY.out HG1.out (Nat.le_refl _) (Nat.le_refl _)
      refine (size_any op _ (Tab.below HT.out B1.out)).mono ?_
      rintro e y ⟨rfl, hy⟩
      have BY : Hid (Below w.heap.size w y) := B1.out.trans (hy.mono B1.out.size)
      have HO2 : Hid (y.ownsMap Tryd.prog 2 (unitElem (H := Unit)) w.heap.size (k + 1) (iset (startsL l (k + 1)))) := by
        show World.ownsMap _ _ _ _ _ _ _
        rw [startsL_succ, iset_snoc, ← HZ.out]
        exact map_thru HO1.out hy
      obtain ⟨sz, hsz⟩ : ∃ sz, I.size op = sz := ⟨_, rfl⟩
      rw [hsz] at HSU HSZ ⊢
      have hs0 := HSZ.out.1
      have hs1 := HSZ.out.2
      have HZ2 : Hid (z + sz = stL l (k + 1)) := by show _ = _; rw [HSU.out, ← HZ.out]
      clear hy hsz
      go_wp2_with fail
      go_roundg (len - (k + 1))
      case measure => omega
      case rel => exact ⟨k + 1, _, rfl, by first | rfl | (congr 1; omega), by omega, Nat.le_refl _, by omega, by omega, HZ2.out, HO2.out, BY.out⟩
    · obtain rfl : k = len := by omega
      have hii : ¬ (k : Int) < k := by omega
      go_wp2_with fail
      go_ret
      exact ⟨rfl, HMP.out, HBL.out⟩


set_option maxHeartbeats 8000000 in
theorem reach_any {w : World} {bm n : Nat} {a : Option Addr} {len cap : Nat} {l : List I.Q} (hmap : w.ownsMap Tryd.prog 2 (unitElem (H := Unit)) bm n (iset (startsL l l.length))) (h : QsV w a len cap l) (hl : len ≤ 1000000) (ht : Tab w) :
    Calls Tryd.prog 24 #[.map (some bm), .slice a len cap] w fun e w' => e = .returned (.bool (reachOk l)) ∧ Below w.heap.size w w' := by
  have HM : Hid _ := hmap
  have HV : Hid _ := h
  have HC : Hid _ := h.count
  have HT : Hid _ := ht
  clear h ht hmap
  generalize hR : reachOk l = R
  have HR : Hid _ := hR
  clear hR
  go_enter Tryd.func24, Tryd.ntmps24
  go_wp2_with fail
  go_loopg [5, 10] len (fun r av iv wq => ∃ (k : Nat) (z : Int), av = .int .i64 z ∧ iv = .int .i64 k ∧ k ≤ len ∧ len - k ≤ r ∧ 0 ≤ z ∧ z ≤ 10 * k ∧ Hid (z = stL l k) ∧ Hid (∀ i, i < k → reachAt l i = true) ∧ Hid (Below w.heap.size w wq))
  case atStart => exact ⟨0, 0, rfl, rfl, Nat.zero_le _, by omega, by omega, by omega, rfl, (fun i hi => by omega : ∀ i, i < 0 → reachAt l i = true), Below.refl _ _⟩
  case round =>
    obtain ⟨k, z, rfl, rfl, hk, hr, hz0, hz1, HZ, HAL, HBL⟩ := hrel
    by_cases hlt : k < len
    · rcases HV.out.cells with h0 | ⟨b, off, hA, hcl⟩
      · omega
      obtain ⟨q0, q1, q2, q3⟩ := hcl k hlt
      have q0 := cell_thru HBL.out q0
      have q1 := cell_thru HBL.out q1
      have q2 := cell_thru HBL.out q2
      have q3 := cell_thru HBL.out q3
      have HSU : Hid _ := stL_succ l (k := k) (by have := HC.out; omega)
      have HSZ : Hid _ := size_bd (l.getD k noQ).op
      have HRA : Hid (reachAt l k = (!(goesB (l.getD k noQ).op) || (startsL l l.length).contains (IntKind.i64.wrap (stL l (k + 1) + (l.getD k noQ).n)))) := rfl
      have HNO : Hid (reachAt l k = false → R = false) := fun hz => by rw [← HR.out]; exact all_range_no (by have := HC.out; omega) hz
      have HYES : Hid (reachAt l k = true → ∀ i, i < k + 1 → reachAt l i = true) := fun hz i hi => by
        by_cases e : i = k
        · subst e; exact hz
        · exact HAL.out i (by omega)
      obtain ⟨⟨op, qa, qb, qn⟩, hx⟩ : ∃ x, l.getD k noQ = x := ⟨_, rfl⟩
      rw [hx] at q0 q1 q2 q3 HSU HSZ HRA
      simp only at q0 q1 q2 q3 HSU HSZ HRA
      cases hA
      have hii : (k : Int) < len := by omega
      have hin : 0 ≤ (k : Int) := by omega
      clear hcl hx
      obtain ⟨Y1, hY1⟩ : ∃ Y1, wr.alloc (.cells #[.int .i64 op, .int .i64 qa, .int .i64 qb, .int .i64 qn] 62) = Y1 := ⟨_, rfl⟩
      have bY : Below wr.heap.size wr Y1 := by subst hY1; exact bl_one _ _
      have g0 : Y1.cell? ⟨wr.heap.size, 0, none⟩ = some (.int .i64 op) := by subst hY1; exact cell_last rfl rfl
      have g3 : Y1.cell? ⟨wr.heap.size, 3, none⟩ = some (.int .i64 qn) := by subst hY1; exact cell_last rfl rfl
      have HBY : Hid (Below w.heap.size w Y1) := HBL.out.trans (bY.mono HBL.out.size)
      clear bY
      go_wp2_with fail
      refine (size_any op _ (Tab.below HT.out HBY.out)).mono ?_
      rintro e y ⟨rfl, hy⟩
      have BY : Hid (Below w.heap.size w y) := HBY.out.trans (hy.mono HBY.out.size)
      have p0 := cell_thru hy g0
      have p3 := cell_thru hy g3
      obtain ⟨sz, hsz⟩ : ∃ sz, I.size op = sz := ⟨_, rfl⟩
      rw [hsz] at HSU HSZ ⊢
      have hs0 := HSZ.out.1
      have hs1 := HSZ.out.2
      have HZ2 : Hid (z + sz = stL l (k + 1)) := by show _ = _; rw [HSU.out, ← HZ.out]
      rw [← HZ2.out] at HRA
      clear hy hsz g0 g3
      go_wp2_with fail
      refine (goes_any op _).mono ?_
      rintro e y2 ⟨rfl, rfl⟩
      cases hg : goesB op with
      | false =>
        have HE : Hid _ := HYES.out (by rw [HRA.out, hg]; rfl)
        go_wp2_with fail
        go_roundg (len - (k + 1))
        case measure => omega
        case rel => exact ⟨k + 1, _, rfl, by first | rfl | (congr 1; omega), by omega, Nat.le_refl _, by omega, by omega, HZ2.out, HE.out, BY.out⟩
      | true =>
        have HG : Hid _ := hg
        clear hg
        have HRB : Hid _ := HRA.out
        rw [HG.out] at HRB
        simp only [Bool.not_true, Bool.false_or] at HRB
        obtain ⟨tz, htz⟩ : ∃ tz, IntKind.i64.wrap (z + sz + qn) = tz := ⟨_, rfl⟩
        have HWZ : Hid ((Lit.int .i64 tz).wf = true) := by show _ = _; rw [← htz]; exact wrap_wf _
        rw [htz] at HRB
        go_wp2_with fail
        refine (shas_any (map_thru HM.out BY.out) tz HWZ.out).mono ?_
        rintro e y3 ⟨rfl, hy3⟩
        have B3 : Hid (Below w.heap.size w y3) := BY.out.trans (hy3.mono BY.out.size)
        rw [← HRB.out]
        clear hy3
        cases hc : reachAt l k with
        | false =>
          have HE : Hid (R = false) := HNO.out hc
          go_wp2
          go_ret
          exact ⟨by rw [HE.out]; rfl, B3.out⟩
        | true =>
          have HE : Hid _ := HYES.out hc
          go_wp2_with fail
          go_roundg (len - (k + 1))
          case measure => omega
          case rel => exact ⟨k + 1, _, rfl, by first | rfl | (congr 1; omega), by omega, Nat.le_refl _, by omega, by omega, HZ2.out, HE.out, B3.out⟩
    · have hii : ¬ (k : Int) < len := by omega
      have HE : Hid (R = true) := by show _ = _; rw [← HR.out]; exact all_range_yes (fun i hi => HAL.out i (by have := HC.out; omega))
      go_wp2
      go_ret
      exact ⟨by rw [HE.out]; rfl, HBL.out⟩

set_option maxHeartbeats 8000000 in
theorem bear_any {w : World} {bm n : Nat} {zs : List Int} {a : Option Addr} {len cap : Nat} {ss : List Sym} (hmap : w.ownsMap Tryd.prog 2 (unitElem (H := Unit)) bm n (iset zs)) (h : SymsV w a len cap ss) (hl : len ≤ 1000000) :
    Calls Tryd.prog 25 #[.map (some bm), .slice a len cap] w fun e w' => e = .returned (.bool (bearOk zs ss)) ∧ Below w.heap.size w w' := by
  have HM : Hid _ := hmap
  have HV : Hid _ := h
  have HC : Hid _ := h.count
  clear h hmap
  generalize hR : bearOk zs ss = R
  have HR : Hid _ := hR
  clear hR
  go_enter Tryd.func25, Tryd.ntmps25
  go_wp2_with fail
  go_loopg [9] len (fun r iv wq => ∃ (k : Nat), iv = .int .i64 k ∧ k ≤ len ∧ len - k ≤ r ∧ Hid (∀ i, i < k → bearAt zs (ss.getD i noSym) = true) ∧ Hid (Below w.heap.size w wq))
  case atStart => exact ⟨0, rfl, Nat.zero_le _, by omega, (fun i hi => by omega : ∀ i, i < 0 → bearAt zs (ss.getD i noSym) = true), Below.refl _ _⟩
  case round =>
    obtain ⟨k, rfl, hk, hr, HAL, HBL⟩ := hrel
    by_cases hlt : k < len
    · rcases HV.out.cells with h0 | ⟨b, off, hA, hcl⟩
      · omega
      obtain ⟨q0, q1, q2⟩ := hcl k hlt
      have q0 := cell_thru HBL.out q0
      have q1 := cell_thru HBL.out q1
      have q2 := cell_thru HBL.out q2
      have HFT : Hid _ := HV.out.fits (ss.getD k noSym) (by have := HC.out; simp [List.getD, show k < ss.length by omega])
      have HRA : Hid (bearAt zs (ss.getD k noSym) = (decide ((ss.getD k noSym).kind = 2) || zs.contains (ss.getD k noSym).pos)) := rfl
      have HNO : Hid (bearAt zs (ss.getD k noSym) = false → R = false) := fun hz => by rw [← HR.out]; exact all_range_no (by have := HC.out; omega) hz
      have HYES : Hid (bearAt zs (ss.getD k noSym) = true → ∀ i, i < k + 1 → bearAt zs (ss.getD i noSym) = true) := fun hz i hi => by
        by_cases e : i = k
        · subst e; exact hz
        · exact HAL.out i (by omega)
      obtain ⟨⟨nm, kd, ps⟩, hx⟩ : ∃ x, ss.getD k noSym = x := ⟨_, rfl⟩
      rw [hx] at q0 q1 q2 HFT HRA HNO HYES
      simp only at q0 q1 q2 HFT HRA
      cases hA
      have hii : (k : Int) < len := by omega
      have hin : 0 ≤ (k : Int) := by omega
      clear hcl hx
      obtain ⟨Y1, hY1⟩ : ∃ Y1, wr.alloc (.cells #[.string nm, .int .i64 kd, .int .i64 ps] 80) = Y1 := ⟨_, rfl⟩
      have bY : Below wr.heap.size wr Y1 := by subst hY1; exact bl_one _ _
      have g1 : Y1.cell? ⟨wr.heap.size, 1, none⟩ = some (.int .i64 kd) := by subst hY1; exact cell_last rfl rfl
      have g2 : Y1.cell? ⟨wr.heap.size, 2, none⟩ = some (.int .i64 ps) := by subst hY1; exact cell_last rfl rfl
      have HBY : Hid (Below w.heap.size w Y1) := HBL.out.trans (bY.mono HBL.out.size)
      generalize bearAt zs ⟨nm, kd, ps⟩ = BA at HRA HNO HYES
      clear bY
      by_cases hkd : kd = 2
      · have HE : Hid _ := HYES.out (by rw [HRA.out, decide_eq_true hkd]; rfl)
        subst hkd
        go_wp2_with fail
        go_roundg (len - (k + 1))
        case measure => omega
        case rel => exact ⟨k + 1, by first | rfl | (congr 1; omega), by omega, Nat.le_refl _, HE.out, HBY.out⟩
      · have hd : (kd != 2) = true := by simpa using hkd
        have HRB : Hid (BA = zs.contains ps) := by show _ = _; rw [HRA.out, decide_eq_false hkd, Bool.false_or]
        clear hkd
        go_wp2_with fail
        refine (shas_any (map_thru HM.out HBY.out) ps HFT.out.2.2).mono ?_
        rintro e y3 ⟨rfl, hy3⟩
        have B3 : Hid (Below w.heap.size w y3) := HBY.out.trans (hy3.mono HBY.out.size)
        rw [← HRB.out]
        clear hy3
        cases hc : BA with
        | false =>
          have HE : Hid (R = false) := HNO.out hc
          go_wp2
          go_ret
          exact ⟨by rw [HE.out]; rfl, B3.out⟩
        | true =>
          have HE : Hid _ := HYES.out hc
          go_wp2_with fail
          go_roundg (len - (k + 1))
          case measure => omega
          case rel => exact ⟨k + 1, by first | rfl | (congr 1; omega), by omega, Nat.le_refl _, HE.out, B3.out⟩
    · have hii : ¬ (k : Int) < len := by omega
      have HE : Hid (R = true) := by show _ = _; rw [← HR.out]; exact all_range_yes (fun i hi => HAL.out i (by have := HC.out; omega))
      go_wp2
      go_ret
      exact ⟨by rw [HE.out]; rfl, HBL.out⟩

set_option maxHeartbeats 8000000 in
theorem addr_any {w : World} {a : Option Addr} {len cap : Nat} {l : List I.Q} (h : QsV w a len cap l) (hl : len ≤ 1000000) (words : Nat) (hwd : words ≤ 1000000) :
    Calls Tryd.prog 26 #[.slice a len cap, .int .i64 words] w fun e w' => e = .returned (.bool (addrOk words l)) ∧ Below w.heap.size w w' := by
  have HV : Hid _ := h
  have HC : Hid _ := h.count
  clear h
  generalize hR : addrOk words l = R
  have HR : Hid _ := hR
  clear hR
  go_enter Tryd.func26, Tryd.ntmps26
  go_wp2_with fail
  go_loopg [10] len (fun r iv wq => ∃ (k : Nat), iv = .int .i64 k ∧ k ≤ len ∧ len - k ≤ r ∧ Hid (∀ i, i < k → addrAt words (l.getD i noQ) = true) ∧ Hid (Below w.heap.size w wq))
  case atStart => exact ⟨0, rfl, Nat.zero_le _, by omega, (fun i hi => by omega : ∀ i, i < 0 → addrAt words (l.getD i noQ) = true), Below.refl _ _⟩
  case round =>
    obtain ⟨k, rfl, hk, hr, HAL, HBL⟩ := hrel
    by_cases hlt : k < len
    · rcases HV.out.cells with h0 | ⟨b, off, hA, hcl⟩
      · omega
      obtain ⟨q0, q1, q2, q3⟩ := hcl k hlt
      have q0 := cell_thru HBL.out q0
      have q1 := cell_thru HBL.out q1
      have q2 := cell_thru HBL.out q2
      have q3 := cell_thru HBL.out q3
      have HRA : Hid (addrAt words (l.getD k noQ) = (!(decide ((l.getD k noQ).op = 19)) || (decide (0 ≤ IntKind.i64.wrap ((l.getD k noQ).n - 1048576)) && (decide (IntKind.i64.wrap ((l.getD k noQ).n - 1048576) % 8 = 0) && decide (IntKind.i64.wrap ((l.getD k noQ).n - 1048576) < 8 * (words : Int)))))) := rfl
      have HNO : Hid (addrAt words (l.getD k noQ) = false → R = false) := fun hz => by rw [← HR.out]; exact all_range_no (by have := HC.out; omega) hz
      have HYES : Hid (addrAt words (l.getD k noQ) = true → ∀ i, i < k + 1 → addrAt words (l.getD i noQ) = true) := fun hz i hi => by
        by_cases e : i = k
        · subst e; exact hz
        · exact HAL.out i (by omega)
      obtain ⟨⟨op, qa, qb, qn⟩, hx⟩ : ∃ x, l.getD k noQ = x := ⟨_, rfl⟩
      rw [hx] at q0 q1 q2 q3 HRA HNO HYES
      simp only at q0 q1 q2 q3 HRA
      cases hA
      have hii : (k : Int) < len := by omega
      have hin : 0 ≤ (k : Int) := by omega
      clear hcl hx
      obtain ⟨Y1, hY1⟩ : ∃ Y1, wr.alloc (.cells #[.int .i64 op, .int .i64 qa, .int .i64 qb, .int .i64 qn] 62) = Y1 := ⟨_, rfl⟩
      have bY : Below wr.heap.size wr Y1 := by subst hY1; exact bl_one _ _
      have g0 : Y1.cell? ⟨wr.heap.size, 0, none⟩ = some (.int .i64 op) := by subst hY1; exact cell_last rfl rfl
      have g3 : Y1.cell? ⟨wr.heap.size, 3, none⟩ = some (.int .i64 qn) := by subst hY1; exact cell_last rfl rfl
      have HBY : Hid (Below w.heap.size w Y1) := HBL.out.trans (bY.mono HBL.out.size)
      generalize addrAt words ⟨op, qa, qb, qn⟩ = BA at HRA HNO HYES
      clear bY
      by_cases hop : op = 19
      rotate_left
      · have HE : Hid _ := HYES.out (by rw [HRA.out, decide_eq_false hop]; rfl)
        have hd : (op != 19) = true := by simpa using hop
        clear hop
        go_wp2_with fail
        go_roundg (len - (k + 1))
        case measure => omega
        case rel => exact ⟨k + 1, by first | rfl | (congr 1; omega), by omega, Nat.le_refl _, HE.out, HBY.out⟩
      subst hop
      obtain ⟨far, hfar⟩ : ∃ far, IntKind.i64.wrap (qn - 1048576) = far := ⟨_, rfl⟩
      rw [hfar] at HRA
      simp only [decide_true, Bool.not_true, Bool.false_or] at HRA
      rcases (show far < 0 ∨ (0 ≤ far ∧ ¬ far % 8 = 0) ∨ (0 ≤ far ∧ far % 8 = 0 ∧ 8 * (words : Int) ≤ far) ∨ (0 ≤ far ∧ far % 8 = 0 ∧ ¬ 8 * (words : Int) ≤ far) by omega) with h1 | ⟨h1, h2⟩ | ⟨h1, h2, h3⟩ | ⟨h1, h2, h3⟩
      · have HE : Hid (R = false) := HNO.out (by rw [HRA.out, decide_eq_false (by omega), Bool.false_and])
        go_wp2
        go_ret
        exact ⟨by rw [HE.out]; rfl, HBY.out⟩
      · have HE : Hid (R = false) := HNO.out (by rw [HRA.out, decide_eq_false h2, Bool.false_and, Bool.and_false])
        have hd : (far % 8 != 0) = true := by simpa using h2
        go_wp2
        go_ret
        exact ⟨by rw [HE.out]; rfl, HBY.out⟩
      · have HE : Hid (R = false) := HNO.out (by rw [HRA.out, decide_eq_false (show ¬ far < 8 * (words : Int) by omega), Bool.and_false, Bool.and_false])
        go_wp2
        go_ret
        exact ⟨by rw [HE.out]; rfl, HBY.out⟩
      · have HE : Hid _ := HYES.out (by rw [HRA.out, decide_eq_true h1, decide_eq_true h2, decide_eq_true (show far < 8 * (words : Int) by omega)]; rfl)
        go_wp2_with fail
        go_roundg (len - (k + 1))
        case measure => omega
        case rel => exact ⟨k + 1, by first | rfl | (congr 1; omega), by omega, Nat.le_refl _, HE.out, HBY.out⟩
    · have hii : ¬ (k : Int) < len := by omega
      have HE : Hid (R = true) := by show _ = _; rw [← HR.out]; exact all_range_yes (fun i hi => HAL.out i (by have := HC.out; omega))
      go_wp2
      go_ret
      exact ⟨by rw [HE.out]; rfl, HBL.out⟩
end Go.Proofs.YtffokdldgdjkhaaDoor

/- What image.Threads, mayBe and Check come to. -/
namespace Go.Proofs.YtffokdldgdjkhaaDoor
set_option maxRecDepth 100000
open Go.RowKit Go.Maps Go.Lib
set_option linter.unusedVariables false
set_option linter.unusedSimpArgs false

/-- An image. -/
structure ImgD where
  code : ByteArray
  data : List Int
  syms : List Sym
structure ImgV (w : World) (v : Value) (m : ImgD) : Prop where
  form : ∃ a1 l1 c1 a2 l2 c2, v = .agg #[.string m.code, .slice a1 l1 c1, .slice a2 l2 c2] ∧ m.code.size ≤ maxLen ∧ IntsV w a1 l1 c1 m.data ∧ SymsV w a2 l2 c2 m.syms
theorem ImgV.below {w w1 : World} {v : Value} {m : ImgD} (h : ImgV w v m) (hb : Below w.heap.size w w1) : ImgV w1 v m := by
  obtain ⟨a1, l1, c1, a2, l2, c2, e, hs, h1, h2⟩ := h.form
  exact ⟨⟨a1, l1, c1, a2, l2, c2, e, hs, h1.below hb, h2.below hb⟩⟩
def ImgD.obj (m : ImgD) : ObjD := ⟨m.code, m.data, m.syms, []⟩
def thrs (ss : List Sym) : List ByteArray := (ss.filter fun s => decide (s.kind = 3)).map Sym.name
def ImgD.may (m : ImgD) : Bool := m.obj.may && ((decide (1 ≤ (thrs m.syms).length) && decide ((thrs m.syms).length ≤ 4)) && (match I.allI m.code with
  | none => false
  | some l => reachOk l && (bearOk (startsL l l.length) m.syms && addrOk m.data.length l)))
theorem infoStr : (Tryd.prog.info? 9).map (fun i => (i.zero, i.size, i.bytes)) = some (some (.string { data := #[] }), 1, 16) := by kernel_rfl
theorem own_formI {w : World} {B : Nat} {e : TypeId} {s n : Nat} {v : Value} {xs : List Value} (h : w.ownsRow B e s v n xs) : ∃ a c, v = .slice a n c := by
  rcases h.2 with ⟨rfl, rfl⟩ | ⟨g, cap, cur, rfl, -⟩
  · exact ⟨none, 0, rfl⟩
  · exact ⟨_, _, rfl⟩
theorem thrs_snoc (ss : List Sym) {k : Nat} (h : k < ss.length) : thrs (ss.take (k + 1)) = thrs (ss.take k) ++ (if (ss.getD k noSym).kind = 3 then [(ss.getD k noSym).name] else []) := by
  rw [List.take_succ_eq_append_getElem h]
  have e : ss.getD k noSym = ss[k] := by simp [List.getD, h]
  rw [e]
  unfold thrs
  rw [List.filter_append, List.map_append]
  congr 1
  by_cases hk : ss[k].kind = 3 <;> simp [hk]
theorem thrs_len (ss : List Sym) : (thrs ss).length ≤ ss.length := by
  unfold thrs; rw [List.length_map]; exact List.length_filter_le _ _
def strC (s : ByteArray) : List Value := [.string s]

set_option maxHeartbeats 8000000 in
theorem threads_any {w : World} {v : Value} {m : ImgD} (h : ImgV w v m) (hl : m.syms.length ≤ 1000000) :
    Calls Tryd.prog 14 #[v] w fun e w' => (∃ v', e = .returned v' ∧ w'.ownsRow w.heap.size 9 1 v' (thrs m.syms).length ((thrs m.syms).flatMap strC)) ∧ Below w.heap.size w w' := by
  obtain ⟨i1, hi1, hz10, hz11, hz12⟩ := info_parts infoStr
  obtain ⟨a1, l1, c1, a2, l2, c2, rfl, hs, h1, h2⟩ := h.form
  obtain ⟨code, data, ss⟩ := m
  simp only at hs h1 h2 hl ⊢
  have HV : Hid _ := h2
  have HC : Hid _ := h2.count
  have hl2 : l2 ≤ 1000000 := by have := HC.out; omega
  clear h h1 h2 hs hl
  obtain ⟨W1, hW1⟩ : ∃ W1, w.alloc (.cells #[.string code, .slice a1 l1 c1, .slice a2 l2 c2] 25) = W1 := ⟨_, rfl⟩
  have b1 : Below w.heap.size w W1 := by subst hW1; exact bl_one _ _
  have HB1 : Hid _ := b1
  have v2 : W1.cell? ⟨w.heap.size, 2, none⟩ = some (.slice a2 l2 c2) := by subst hW1; exact cell_last rfl rfl
  have HN0 : Hid (W1.ownsRow w.heap.size 9 1 (.slice none 0 0) (thrs (ss.take 0)).length ((thrs (ss.take 0)).flatMap strC)) := World.ownsRow_nil _ _ _ _
  clear b1
  go_enter Tryd.func14, Tryd.ntmps14
  go_wp2_with fail
  go_loopg [3, 9] l2 (fun r lv iv wq => ∃ (k : Nat), iv = .int .i64 k ∧ k ≤ l2 ∧ l2 - k ≤ r ∧ Hid (wq.ownsRow w.heap.size 9 1 lv (thrs (ss.take k)).length ((thrs (ss.take k)).flatMap strC)) ∧ Hid (Below w.heap.size w wq))
  case atStart => exact ⟨0, rfl, Nat.zero_le _, by omega, HN0.out, HB1.out⟩
  case round =>
    obtain ⟨k, rfl, hk, hr, HRW, HBL⟩ := hrel
    by_cases hlt : k < l2
    · rcases HV.out.cells with h0 | ⟨b, off, hA, hcl⟩
      · omega
      obtain ⟨q0, q1, q2⟩ := hcl k hlt
      have q0 := cell_thru HBL.out q0
      have q1 := cell_thru HBL.out q1
      have q2 := cell_thru HBL.out q2
      have HSN : Hid _ := thrs_snoc ss (k := k) (by have := HC.out; omega)
      have HTL : Hid ((thrs (ss.take k)).length ≤ k) := by show _ ≤ _; have := thrs_len (ss.take k); rw [List.length_take] at this; omega
      obtain ⟨⟨nm, kd, ps⟩, hx⟩ : ∃ x, ss.getD k noSym = x := ⟨_, rfl⟩
      rw [hx] at q0 q1 q2 HSN
      simp only at q0 q1 q2 HSN
      cases hA
      have hii : (k : Int) < l2 := by omega
      have hin : 0 ≤ (k : Int) := by omega
      clear hcl hx
      obtain ⟨Y1, hY1⟩ : ∃ Y1, wr.alloc (.cells #[.string nm, .int .i64 kd, .int .i64 ps] 80) = Y1 := ⟨_, rfl⟩
      have bY : Below wr.heap.size wr Y1 := by subst hY1; exact bl_one _ _
      have g0 : Y1.cell? ⟨wr.heap.size, 0, none⟩ = some (.string nm) := by subst hY1; exact cell_last rfl rfl
      have g1 : Y1.cell? ⟨wr.heap.size, 1, none⟩ = some (.int .i64 kd) := by subst hY1; exact cell_last rfl rfl
      have HBY : Hid (Below w.heap.size w Y1) := HBL.out.trans (bY.mono HBL.out.size)
      by_cases hkd : kd = 3
      · subst hkd
        rw [if_pos rfl] at HSN
        have gz : w.grownBy w none := World.grownBy.refl _ _
        obtain ⟨Z, hZ⟩ : ∃ Z, Y1.alloc (.cells #[.string nm] 9) = Z := ⟨_, rfl⟩
        have bZ : Below Y1.heap.size Y1 Z := by subst hZ; exact bl_one _ _
        obtain ⟨tn, htn⟩ : ∃ tn, (thrs (ss.take k)).length = tn := ⟨_, rfl⟩
        have htl : tn ≤ k := by rw [← htn]; exact HTL.out
        have HTN : Hid _ := htn
        have HRZ : Hid (Z.ownsRow w.heap.size 9 1 u3 tn ((thrs (ss.take k)).flatMap strC)) := by
          show World.ownsRow _ _ _ _ _ _ _
          rw [← htn]
          have g2 : wr.grownBy Z none := ⟨by rw [bZ.os, bY.os], by rw [bZ.tape, bY.tape], by rw [bZ.output, bY.output], Nat.le_trans bY.size bZ.size, fun i hi _ => (bZ.block i (by have := bY.size; omega)).trans (bY.block i hi)⟩
          cases e : u3.ownBlock with
          | none => exact World.ownsRow.kept HRW.out g2 (.inl e)
          | some bb => exact World.ownsRow.kept HRW.out g2 (.inr (by rw [e]; simp))
        have HBZ : Hid (Below w.heap.size w Z) := HBY.out.trans (bZ.mono HBY.out.size)
        have HZB : Hid (w.heap.size ≤ Z.heap.size) := HBZ.out.size
        have HNCC : Hid (∀ j u, (strC nm)[j]? = some u → Z.cell? ((⟨Y1.heap.size, 0, none⟩ : Addr).add j) = some u) := by
          intro j u hu
          match j, hu with
          | 0, hu => subst hZ; simp [strC] at hu; subst hu; exact cell_last (by simp) (by simp)
          | j + 1, hu => simp [strC] at hu
        clear bY bZ htn
        go_wp2_with (first | (at_builtin; refine wpList_append_lies _ rfl _ _ 54 rfl w.heap.size 9 i1 _ 1 16 Tryd.underlying54 hi1 hz10 hz11 hz12 rfl (by decide) u3 tn _ rfl HRZ.out ⟨Y1.heap.size, 0, none⟩ 1 1 (strC nm) rfl rfl HNCC.out (by intro u hu; simp [strC] at hu; subst hu; rfl) (by decide) (by unfold maxLen; omega) (by omega) HZB.out Z.heap.size rfl ?_; intro ga ca w1 ho1 hg1 hat1 hlt1; have HO1 : Hid _ := ho1; have HG1 : Hid _ := hg1; clear ho1 hg1 hat1) | fail)
        have HR1 : Hid (w1.ownsRow w.heap.size 9 1 (.slice (some ⟨ga, 0, none⟩) (tn + 1) ca) (thrs (ss.take (k + 1))).length ((thrs (ss.take (k + 1))).flatMap strC)) := by
          show World.ownsRow _ _ _ _ _ _ _
          rw [HSN.out, List.length_append, HTN.out, List.flatMap_append]
          have : ([nm].flatMap strC) = strC nm := by simp [strC]
          rw [this]
          exact HO1.out
        have B1 : Hid (Below w.heap.size w w1) := by
          have hb := HBZ.out
          refine ⟨HG1.out.os.trans hb.os, HG1.out.tape.trans hb.tape, HG1.out.output.trans hb.output, Nat.le_trans hb.size HG1.out.size, fun i hi => (HG1.out.block i (by have := hb.size; omega) ?_).trans (hb.block i hi)⟩
          intro e
          have := (World.ownsRow.lt HRZ.out i e.symm).1
          omega
        go_roundg (l2 - (k + 1))
        case measure => omega
        case rel => exact ⟨k + 1, by first | rfl | (congr 1; omega), by omega, Nat.le_refl _, HR1.out, B1.out⟩
      · rw [if_neg hkd, List.append_nil] at HSN
        have hd : (kd == 3) = false := by simpa using hkd
        have HR1 : Hid (Y1.ownsRow w.heap.size 9 1 u3 (thrs (ss.take (k + 1))).length ((thrs (ss.take (k + 1))).flatMap strC)) := by
          show World.ownsRow _ _ _ _ _ _ _
          rw [HSN.out]
          subst hY1
          exact World.ownsRow.alloc HRW.out _
        clear hkd bY
        go_wp2_with fail
        go_roundg (l2 - (k + 1))
        case measure => omega
        case rel => exact ⟨k + 1, by first | rfl | (congr 1; omega), by omega, Nat.le_refl _, HR1.out, HBY.out⟩
    · obtain rfl : k = l2 := by omega
      have hii : ¬ (k : Int) < k := by omega
      have HR1 : Hid (wr.ownsRow w.heap.size 9 1 u3 (thrs ss).length ((thrs ss).flatMap strC)) := by
        have := HRW.out
        rw [List.take_of_length_le (by have := HC.out; omega)] at this
        exact this
      go_wp2_with fail
      go_ret
      exact ⟨⟨_, rfl, HR1.out⟩, HBL.out⟩

theorem qs_own {w : World} {B : Nat} {a : Option Addr} {n c : Nat} {l : List I.Q} (hn : l.length = n) (h : w.ownsRow B 62 4 (.slice a n c) n (I.rows l)) : QsV w a n c l := by
  have h' : w.ownsRow B 62 4 (.slice a n c) n (l.flatMap I.Q.cs) := h
  obtain ⟨a', c', e, n1, k1⟩ := row_at (m := 4) (f := I.Q.cs) noQ (fun _ => rfl) h' hn
  simp at e
  obtain ⟨rfl, rfl⟩ := e
  refine ⟨hn, ?_⟩
  rcases k1 with h0 | ⟨b, off, ha, hk⟩
  · exact .inl h0
  · exact .inr ⟨b, off, ha, fun i hi => ⟨by have := hk i hi 0 _ (by decide) rfl; simpa using this, hk i hi 1 _ (by decide) rfl, hk i hi 2 _ (by decide) rfl, hk i hi 3 _ (by decide) rfl⟩⟩

set_option maxHeartbeats 8000000 in
theorem imay_any {w : World} {v : Value} {m : ImgD} (h : ImgV w v m) (ht : Tab w) :
    Calls Tryd.prog 10 #[v] w fun e w' => e = .returned (.bool m.may) ∧ Below w.heap.size w w' := by
  have HIV : Hid _ := h
  obtain ⟨a1, l1, c1, a2, l2, c2, rfl, hs, h1, h2⟩ := h.form
  have HT : Hid _ := ht
  have H1 : Hid _ := h1
  have H2 : Hid _ := h2
  have HS : Hid _ := hs
  have HOB : Hid (∀ {x : World}, Below w.heap.size w x → ObjV x (.agg #[.string m.code, .slice a1 l1 c1, .slice a2 l2 c2, .slice none 0 0]) m.obj) := fun hb => ⟨⟨_, _, _, _, _, _, none, 0, 0, rfl, HS.out, H1.out.below hb, H2.out.below hb, ⟨rfl, by simp [ImgD.obj], fun _ => ⟨rfl, rfl⟩, .inl rfl⟩⟩⟩
  have HMM : Hid (m.may = (m.obj.may && ((decide (1 ≤ (thrs m.syms).length) && decide ((thrs m.syms).length ≤ 4)) && (match I.allI m.code with | none => false | some l => reachOk l && (bearOk (startsL l l.length) m.syms && addrOk m.data.length l))))) := rfl
  obtain ⟨code, hcode⟩ : ∃ code, m.code = code := ⟨_, rfl⟩
  have HCO : Hid _ := hcode
  rw [hcode] at HOB HMM ⊢
  clear h h1 h2 hs ht
  obtain ⟨W1, hW1⟩ : ∃ W1, w.alloc (.cells #[.string code, .slice a1 l1 c1, .slice a2 l2 c2] 25) = W1 := ⟨_, rfl⟩
  have b1 : Below w.heap.size w W1 := by subst hW1; exact bl_one _ _
  have HB1 : Hid _ := b1
  have v0 : W1.cell? ⟨w.heap.size, 0, none⟩ = some (.string code) := by subst hW1; exact cell_last rfl rfl
  have v1 : W1.cell? ⟨w.heap.size, 1, none⟩ = some (.slice a1 l1 c1) := by subst hW1; exact cell_last rfl rfl
  have v2 : W1.cell? ⟨w.heap.size, 2, none⟩ = some (.slice a2 l2 c2) := by subst hW1; exact cell_last rfl rfl
  generalize hR : m.may = R at HMM ⊢
  clear b1 hcode hR
  go_enter Tryd.func10, Tryd.ntmps10
  go_wp2_with fail
  refine (check_any (HOB.out HB1.out)).mono ?_
  rintro e y1 ⟨rfl, g1⟩
  have B1 : Hid (Below w.heap.size w y1) := HB1.out.trans (g1.mono HB1.out.size)
  have p0 := cell_thru g1 v0
  have p1 := cell_thru g1 v1
  have p2 := cell_thru g1 v2
  clear g1 v0 v1 v2
  cases hom : m.obj.may with
  | false =>
    have HE : Hid (R = false) := by show _ = _; rw [HMM.out, hom, Bool.false_and]
    go_wp2
    go_ret
    exact ⟨by rw [HE.out]; rfl, B1.out⟩
  | true =>
    have hmp := may_parts hom
    have hcl : code.size ≤ 65536 := by have := hmp.1; rw [← HCO.out]; simpa [ImgD.obj] using this
    have hdl : m.data.length ≤ 4096 := by have := hmp.2.1; simpa [ImgD.obj] using this
    have hsl : m.syms.length ≤ 1000 := by
      have := hmp.2.2.1
      unfold symsOk at this
      rw [Bool.and_eq_true] at this
      exact of_decide_eq_true this.1
    rw [hom, Bool.true_and] at HMM
    have HDL : Hid _ := hdl
    have HSL : Hid _ := hsl
    have HCL : Hid _ := hcl
    clear hmp hom hcl hdl hsl
    go_wp2_with fail
    refine (threads_any (m := m) (v := .agg #[.string code, .slice a1 l1 c1, .slice a2 l2 c2]) (by have := HIV.out.below B1.out; rw [HCO.out] at this; exact this) (by have := HSL.out; omega)).mono ?_
    rintro e y2 ⟨⟨tv, rfl, ho2⟩, g2⟩
    obtain ⟨ta, tc, rfl⟩ := own_formI ho2
    have B2 : Hid (Below w.heap.size w y2) := B1.out.trans (g2.mono B1.out.size)
    have r0 := cell_thru g2 p0
    have r1 := cell_thru g2 p1
    have r2 := cell_thru g2 p2
    obtain ⟨tn, htn⟩ : ∃ tn, (thrs m.syms).length = tn := ⟨_, rfl⟩
    rw [htn] at HMM ⊢
    clear ho2 g2 p0 p1 p2 htn
    by_cases htb : 1 ≤ tn ∧ tn ≤ 4
    rotate_left
    · have HE : Hid (R = false) := by
        show _ = _
        rw [HMM.out]
        have : (decide (1 ≤ tn) && decide (tn ≤ 4)) = false := by
          by_cases e1 : 1 ≤ tn
          · have : ¬ tn ≤ 4 := fun h => htb ⟨e1, h⟩
            simp [this]
          · simp [e1]
        rw [this, Bool.false_and]
      have key : (tn : Int) < 1 ∨ (¬ (tn : Int) < 1 ∧ (4 : Int) < tn) := by omega
      clear htb
      rcases key with k1 | ⟨k1, k2⟩
      all_goals
        go_wp2
        go_ret
        exact ⟨by rw [HE.out]; rfl, B2.out⟩
    have k1 : ¬ (tn : Int) < 1 := by omega
    have k2 : ¬ (4 : Int) < tn := by omega
    rw [decide_eq_true htb.1, decide_eq_true htb.2] at HMM
    simp only [Bool.true_and] at HMM
    clear htb
    go_wp2_with fail
    refine (all_any code (by have := HCL.out; omega) _ (Tab.below HT.out B2.out)).mono ?_
    rintro e y3 ⟨hp, g3⟩
    have B3 : Hid (Below w.heap.size w y3) := B2.out.trans (g3.mono B2.out.size)
    have s0 := cell_thru g3 r0
    have s1 := cell_thru g3 r1
    have s2 := cell_thru g3 r2
    unfold I.allPost at hp
    cases hal : I.allI code with
    | none =>
      rw [hal] at hp HMM
      simp only at hp HMM
      subst hp
      have HE : Hid (R = false) := HMM.out
      clear g3 r0 r1 r2 hal
      go_wp2
      go_ret
      exact ⟨by rw [HE.out]; rfl, B3.out⟩
    | some l =>
      rw [hal] at hp HMM
      simp only at hp HMM
      obtain ⟨lv, rfl, ho3⟩ := hp
      obtain ⟨la, lc, rfl⟩ := own_formI ho3
      have HQ : Hid _ := qs_own rfl ho3
      have hln : l.length ≤ 65536 := by
        have h1 := I.flat_len l (I.allI_some hal).1
        rw [← (I.allI_some hal).2] at h1
        have h2 : (byts code).length = code.size := by simp [W.tail]
        have := HCL.out
        omega
      obtain ⟨ln, hln'⟩ : ∃ ln, l.length = ln := ⟨_, rfl⟩
      have HLN : Hid _ := hln'
      rw [hln'] at hln HQ HMM ⊢
      clear g3 r0 r1 r2 hal ho3 hln'
      go_wp2_with fail
      refine (starts_any HQ.out (by omega) (Tab.below HT.out B3.out)).mono ?_
      rintro e y4 ⟨rfl, hm4, g4⟩
      have B4 : Hid (Below w.heap.size w y4) := B3.out.trans (g4.mono B3.out.size)
      have HM4 : Hid _ := hm4
      have Q4 : Hid _ := HQ.out.below g4
      have t0 := cell_thru g4 s0
      have t1 := cell_thru g4 s1
      have t2 := cell_thru g4 s2
      clear hm4 g4 s0 s1 s2
      go_wp2_with fail
      refine (reach_any (by rw [HLN.out]; exact HM4.out) Q4.out (by omega) (Tab.below HT.out B4.out)).mono ?_
      rintro e y5 ⟨rfl, g5⟩
      have B5 : Hid (Below w.heap.size w y5) := B4.out.trans (g5.mono B4.out.size)
      have HM5 : Hid _ := map_thru HM4.out g5
      have Q5 : Hid _ := Q4.out.below g5
      have t1' := cell_thru g5 t1
      have t2' := cell_thru g5 t2
      clear g5 t0 t1 t2
      cases hre : reachOk l with
      | false =>
        have HE : Hid (R = false) := by show _ = _; rw [HMM.out, hre, Bool.false_and]
        go_wp2
        go_ret
        exact ⟨by rw [HE.out]; rfl, B5.out⟩
      | true =>
        rw [hre, Bool.true_and] at HMM
        clear hre
        have HS5 : Hid _ := H2.out.below B5.out
        have HSC : Hid _ := H2.out.count
        go_wp2_with fail
        refine (bear_any HM5.out HS5.out (by have := HSL.out; have := HSC.out; omega)).mono ?_
        rintro e y6 ⟨rfl, g6⟩
        have B6 : Hid (Below w.heap.size w y6) := B5.out.trans (g6.mono B5.out.size)
        have Q6 : Hid _ := Q5.out.below g6
        have x1 := cell_thru g6 t1'
        clear g6 t1' t2'
        cases hbe : bearOk (startsL l ln) m.syms with
        | false =>
          have HE : Hid (R = false) := by show _ = _; rw [HMM.out, hbe, Bool.false_and]
          go_wp2
          go_ret
          exact ⟨by rw [HE.out]; rfl, B6.out⟩
        | true =>
          rw [hbe, Bool.true_and] at HMM
          have HDC : Hid _ := H1.out.count
          rw [HDC.out] at HMM
          clear hbe
          go_wp2_with fail
          refine (addr_any Q6.out (by omega) l1 (by have := HDL.out; have := HDC.out; omega)).mono ?_
          rintro e y7 ⟨rfl, g7⟩
          have B7 : Hid (Below w.heap.size w y7) := B6.out.trans (g7.mono B6.out.size)
          rw [← HMM.out]
          clear g7
          go_wp2
          go_ret
          exact ⟨rfl, B7.out⟩

theorem icheck_any {w : World} {v : Value} {m : ImgD} (h : ImgV w v m) (ht : Tab w) :
    Calls Tryd.prog 5 #[v] w fun e w' => e = .returned (.int .i64 (if m.may = true then 0 else 9)) ∧ Below w.heap.size w w' := by
  have HIV : Hid _ := h
  have HT : Hid _ := ht
  obtain ⟨a1, l1, c1, a2, l2, c2, rfl, -⟩ := h.form
  generalize hR : (if m.may = true then (0 : Int) else 9) = R
  have HR : Hid _ := hR
  obtain ⟨code, hcode⟩ : ∃ code, m.code = code := ⟨_, rfl⟩
  rw [hcode] at HIV ⊢
  clear h ht hR hcode
  obtain ⟨W1, hW1⟩ : ∃ W1, w.alloc (.cells #[.string code, .slice a1 l1 c1, .slice a2 l2 c2] 25) = W1 := ⟨_, rfl⟩
  have b1 : Below w.heap.size w W1 := by subst hW1; exact bl_one _ _
  have HB1 : Hid _ := b1
  have v0 : W1.cell? ⟨w.heap.size, 0, none⟩ = some (.string code) := by subst hW1; exact cell_last rfl rfl
  have v1 : W1.cell? ⟨w.heap.size, 1, none⟩ = some (.slice a1 l1 c1) := by subst hW1; exact cell_last rfl rfl
  have v2 : W1.cell? ⟨w.heap.size, 2, none⟩ = some (.slice a2 l2 c2) := by subst hW1; exact cell_last rfl rfl
  clear b1
  go_enter Tryd.func5, Tryd.ntmps5
  go_wp2_with fail
  refine (imay_any (HIV.out.below HB1.out) (Tab.below HT.out HB1.out)).mono ?_
  rintro e y1 ⟨rfl, g1⟩
  have B1 : Hid (Below w.heap.size w y1) := HB1.out.trans (g1.mono HB1.out.size)
  clear g1 v0 v1 v2
  cases hm : m.may with
  | false =>
    have HE : Hid (R = 9) := by show _ = _; rw [← HR.out, hm]; rfl
    go_wp2
    go_ret
    exact ⟨by rw [HE.out]; rfl, B1.out⟩
  | true =>
    have HE : Hid (R = 0) := by show _ = _; rw [← HR.out, hm]; rfl
    go_wp2
    go_ret
    exact ⟨by rw [HE.out]; rfl, B1.out⟩
end Go.Proofs.YtffokdldgdjkhaaDoor

/- What the document's has, Jumps, Starts and May come to. -/
namespace Go.Proofs.YtffokdldgdjkhaaDoor
set_option maxRecDepth 100000
open Go.RowKit Go.Maps Go.Lib
set_option linter.unusedVariables false
set_option linter.unusedSimpArgs false

theorem infoInt : (Tryd.prog.info? 3).map (fun i => (i.zero, i.size, i.bytes)) = some (some (.int .i64 0), 1, 8) := by kernel_rfl
theorem row_thruI {w w1 : World} {B : Nat} {ty : TypeId} {k : Nat} {u : Value} {n : Nat} {cs : List Value} (hu : w.ownsRow B ty k u n cs) (hb : Below w.heap.size w w1) : w1.ownsRow B ty k u n cs := by
  have g : w.grownBy w1 none := ⟨hb.os, hb.tape, hb.output, hb.size, fun k hk _ => hb.block k hk⟩
  cases e : u.ownBlock with
  | none => exact hu.kept g (.inl e)
  | some b => exact hu.kept g (.inr (by rw [e]; simp))
theorem ints_own {w : World} {B : Nat} {e : TypeId} {a : Option Addr} {n c : Nat} {zs : List Int} (hf : ∀ z ∈ zs, (Lit.int .i64 z).wf = true) (hn : zs.length = n) (h : w.ownsRow B e 1 (.slice a n c) n (zs.flatMap intC)) : IntsV w a n c zs := by
  obtain ⟨a', c', e, n1, k1⟩ := row_at (m := 1) (f := intC) 0 (fun _ => rfl) h hn
  simp at e
  obtain ⟨rfl, rfl⟩ := e
  refine ⟨hn, hf, n1, ?_⟩
  rcases k1 with h0 | ⟨b, off, ha, hk⟩
  · exact .inl h0
  · exact .inr ⟨b, off, ha, fun i hi => by have := hk i hi 0 _ (by decide) rfl; simpa using this⟩
/-- What Starts hands back. -/
def StIs (s : ByteArray) (e : Ending) (w' : World) : Prop := match I.allI s with
  | some l => ∃ a c, e = .returned (.tuple #[.slice a l.length c, .bool true]) ∧ IntsV w' a l.length c (startsL l l.length)
  | none => e = .returned (.tuple #[.slice none 0 0, .bool false])
theorem all_len {s : ByteArray} {l : List I.Q} (h : I.allI s = some l) : l.length ≤ s.size := by
  have h1 := I.flat_len l (I.allI_some h).1
  rw [← (I.allI_some h).2] at h1
  have h2 : (byts s).length = s.size := by simp [W.tail]
  omega
theorem below_row {n : Nat} {w x y : World} {ty : TypeId} {k m : Nat} {u : Value} {cs : List Value} (h : Below n w x) (hr : x.ownsRow n ty k u m cs) (g : x.grownBy y u.ownBlock) (hn : n ≤ w.heap.size) : Below n w y := by
  refine ⟨g.os.trans h.os, g.tape.trans h.tape, g.output.trans h.output, Nat.le_trans h.size g.size, fun i hi => (g.block i (by have := h.size; omega) ?_).trans (h.block i hi)⟩
  intro e
  have := (World.ownsRow.lt hr i e.symm).1
  omega
theorem startsL_len (l : List I.Q) (k : Nat) : (startsL l k).length = k := by unfold startsL; rw [List.length_map, List.length_range]
theorem startsL_wf (l : List I.Q) (h : l.length ≤ 1000000) : ∀ z ∈ startsL l l.length, (Lit.int .i64 z).wf = true := by
  intro z hz
  unfold startsL at hz
  obtain ⟨k, hk, rfl⟩ := List.mem_map.1 hz
  have := stL_bd l k (by have := List.mem_range.1 hk; omega)
  have := List.mem_range.1 hk
  exact wf_in (by omega) (by omega)

set_option maxHeartbeats 8000000 in
theorem rstarts_any (s : ByteArray) (hs : s.size ≤ 65536) (w : World) :
    Calls Tryd.prog 7 #[.string s] w fun e w' => StIs s e w' ∧ Below w.heap.size w w' := by
  obtain ⟨i1, hi1, hz10, hz11, hz12⟩ := info_parts infoInt
  go_enter Tryd.func7, Tryd.ntmps7
  go_wp2_with fail
  refine (rall_any s (by omega) _).mono ?_
  rintro e y1 ⟨hp, g1⟩
  have B1 : Hid (Below w.heap.size w y1) := g1
  unfold I.allPost at hp
  cases hal : I.allI s with
  | none =>
    rw [hal] at hp
    simp only at hp
    subst hp
    have HST : Hid (StIs s (.returned (.tuple #[.slice none 0 0, .bool false])) y1) := by show StIs _ _ _; unfold StIs; rw [hal]
    clear g1 hal
    go_wp2
    go_ret2
    exact ⟨HST.out, B1.out⟩
  | some l =>
    rw [hal] at hp
    simp only at hp
    obtain ⟨lv, rfl, ho⟩ := hp
    obtain ⟨la, lc, rfl⟩ := own_formI ho
    have hln := all_len hal
    have HQ : Hid _ := qs_own rfl ho
    have HST : Hid (∀ v x, x.ownsRow y1.heap.size 3 1 v l.length ((startsL l l.length).flatMap intC) → StIs s (.returned (.tuple #[v, .bool true])) x) := fun v x hx => by
      unfold StIs
      rw [hal]
      obtain ⟨a, c, rfl⟩ := own_formI hx
      exact ⟨a, c, rfl, ints_own (startsL_wf l (by omega)) (startsL_len _ _) hx⟩
    obtain ⟨ln, hlq⟩ : ∃ ln, l.length = ln := ⟨_, rfl⟩
    have HLN : Hid _ := hlq
    rw [hlq] at hln HQ HST ⊢
    clear ho g1 hal hlq
    go_wp2_with fail
    go_loopg [6, 7, 8] ln (fun r lv av iv wq => ∃ (k : Nat) (z : Int), av = .int .i64 z ∧ iv = .int .i64 k ∧ k ≤ ln ∧ ln - k ≤ r ∧ 0 ≤ z ∧ z ≤ 10 * k ∧ Hid (z = stL l k) ∧ Hid (wq.ownsRow y1.heap.size 3 1 lv k ((startsL l k).flatMap intC)) ∧ Hid (Below y1.heap.size y1 wq))
    case atStart => exact ⟨0, 0, rfl, rfl, Nat.zero_le _, by omega, by omega, by omega, rfl, World.ownsRow_nil _ _ _ _, Below.refl _ _⟩
    case round =>
      obtain ⟨k, z, rfl, rfl, hk, hr, hz0, hz1, HZ, HRW, HBL⟩ := hrel
      by_cases hlt : k < ln
      · rcases HQ.out.cells with h0 | ⟨b, off, hA, hcl⟩
        · omega
        have q0 := (hcl k hlt).1
        have HSU : Hid _ := stL_succ l (k := k) (by have := HLN.out; omega)
        have HSZ : Hid _ := size_bd (l.getD k noQ).op
        obtain ⟨op, hop⟩ : ∃ op, (l.getD k noQ).op = op := ⟨_, rfl⟩
        rw [hop] at q0 HSU HSZ
        cases hA
        have hii : (k : Int) < ln := by omega
        have hin : 0 ≤ (k : Int) := by omega
        clear hcl hop
        obtain ⟨Z, hZ⟩ : ∃ Z, wr.alloc (.cells #[.int .i64 z] 3) = Z := ⟨_, rfl⟩
        have bZ : Below wr.heap.size wr Z := by subst hZ; exact bl_one _ _
        have HRZ : Hid (Z.ownsRow y1.heap.size 3 1 u6 k ((startsL l k).flatMap intC)) := row_thruI HRW.out bZ
        have HBZ : Hid (Below y1.heap.size y1 Z) := HBL.out.trans (bZ.mono HBL.out.size)
        have HZB : Hid (y1.heap.size ≤ Z.heap.size) := HBZ.out.size
        have HNCC : Hid (∀ j u, (intC z)[j]? = some u → Z.cell? ((⟨wr.heap.size, 0, none⟩ : Addr).add j) = some u) := by
          intro j u hu
          match j, hu with
          | 0, hu => subst hZ; simp [intC] at hu; subst hu; exact cell_last (by simp) (by simp)
          | j + 1, hu => simp [intC] at hu
        have HQ0 : Hid _ := q0
        clear bZ q0
        go_wp2_with (first | (at_builtin; refine wpList_append_lies _ rfl _ _ 26 rfl y1.heap.size 3 i1 _ 1 8 Tryd.underlying26 hi1 hz10 hz11 hz12 rfl (by decide) u6 k _ rfl HRZ.out ⟨wr.heap.size, 0, none⟩ 1 1 (intC z) rfl rfl HNCC.out (by intro u hu; simp [intC] at hu; subst hu; rfl) (by decide) (by unfold maxLen; omega) (by omega) HZB.out Z.heap.size rfl ?_; intro ga ca w1 ho1 hg1 hat1 hlt1; have BW : Hid (Below y1.heap.size y1 w1) := below_row HBZ.out HRZ.out hg1 (Nat.le_refl _); have q2 := cell_thru BW.out HQ0.out; have HO1 : Hid _ := ho1; clear ho1 hg1 hat1) | fail)
        refine (rsize_any op _).mono ?_
        rintro e y4 ⟨rfl, rfl⟩
        obtain ⟨sz, hsz⟩ : ∃ sz, I.size op = sz := ⟨_, rfl⟩
        rw [hsz] at HSU HSZ ⊢
        have hs0 := HSZ.out.1
        have hs1 := HSZ.out.2
        have HZ2 : Hid (z + sz = stL l (k + 1)) := by show _ = _; rw [HSU.out, ← HZ.out]
        have HR2 : Hid (y4.ownsRow y1.heap.size 3 1 (.slice (some ⟨ga, 0, none⟩) (k + 1) ca) (k + 1) ((startsL l (k + 1)).flatMap intC)) := by
          show World.ownsRow _ _ _ _ _ _ _
          rw [startsL_succ, List.flatMap_append, ← HZ.out]
          have : ([z].flatMap intC) = intC z := by simp [intC]
          rw [this]
          exact HO1.out
        clear hsz
        go_wp2_with fail
        go_roundg (ln - (k + 1))
        case measure => omega
        case rel => exact ⟨k + 1, _, rfl, by first | rfl | (congr 1; omega), by omega, Nat.le_refl _, by omega, by omega, HZ2.out, HR2.out, BW.out⟩
      · obtain rfl : k = ln := by omega
        have hii : ¬ (k : Int) < k := by omega
        have HE : Hid _ := HST.out _ _ HRW.out
        have BE : Hid (Below w.heap.size w wr) := B1.out.trans (HBL.out.mono B1.out.size)
        go_wp2_with fail
        go_ret2
        exact ⟨HE.out, BE.out⟩

end Go.Proofs.YtffokdldgdjkhaaDoor

/- What image.Write comes to. -/
namespace Go.Proofs.YtffokdldgdjkhaaDoor
set_option maxRecDepth 100000
open Go.RowKit Go.Maps Go.Lib
set_option linter.unusedVariables false
set_option linter.unusedSimpArgs false

/-- An image's form. -/
def bodyI (m : ImgD) : List Int := txt m.code ++ (W.put m.data.length ++ m.data.flatMap long) ++ (W.put m.syms.length ++ m.syms.flatMap symB)
def formI (m : ImgD) : List Int := [73, 77, 71, 49] ++ txt m.code ++ (W.put m.data.length ++ m.data.flatMap long) ++ (W.put m.syms.length ++ m.syms.flatMap symB)
theorem formI_eq (m : ImgD) : formI m = [73, 77, 71, 49] ++ bodyI m := by simp [formI, bodyI]
theorem ImgD.may_obj {m : ImgD} (h : m.may = true) : m.obj.may = true := by
  unfold ImgD.may at h
  rw [Bool.and_eq_true] at h
  exact h.1

set_option maxHeartbeats 8000000 in
theorem iwrite_any {w : World} {v : Value} {m : ImgD} (h : ImgV w v m) (ht : Tab w) :
    Calls Tryd.prog 11 #[v] w fun e w' => e = .returned (.tuple #[.string (if m.may = true then strOfNums (formI m) else ByteArray.empty), .int .i64 (if m.may = true then 0 else 1)]) ∧ Below w.heap.size w w' := by
  have HIV : Hid _ := h
  have HT : Hid _ := ht
  obtain ⟨a1, l1, c1, a2, l2, c2, rfl, hcs, h1, h2⟩ := h.form
  have H1 : Hid _ := h1
  have H2 : Hid _ := h2
  obtain ⟨code, hcode⟩ : ∃ code, m.code = code := ⟨_, rfl⟩
  have HCO : Hid _ := hcode
  rw [hcode] at HIV ⊢
  generalize hR1 : (if m.may = true then strOfNums (formI m) else ByteArray.empty) = R1
  generalize hR2 : (if m.may = true then (0 : Int) else 1) = R2
  have HR1 : Hid _ := hR1
  have HR2 : Hid _ := hR2
  clear h h1 h2 ht hcs hR1 hR2 hcode
  obtain ⟨W1, hW1⟩ : ∃ W1, w.alloc (.cells #[.string code, .slice a1 l1 c1, .slice a2 l2 c2] 25) = W1 := ⟨_, rfl⟩
  have b1 : Below w.heap.size w W1 := by subst hW1; exact bl_one _ _
  have HB1 : Hid _ := b1
  have v0 : W1.cell? ⟨w.heap.size, 0, none⟩ = some (.string code) := by subst hW1; exact cell_last rfl rfl
  have v1 : W1.cell? ⟨w.heap.size, 1, none⟩ = some (.slice a1 l1 c1) := by subst hW1; exact cell_last rfl rfl
  have v2 : W1.cell? ⟨w.heap.size, 2, none⟩ = some (.slice a2 l2 c2) := by subst hW1; exact cell_last rfl rfl
  clear b1
  go_enter Tryd.func11, Tryd.ntmps11
  go_wp2_with fail
  refine (imay_any (HIV.out.below HB1.out) (Tab.below HT.out HB1.out)).mono ?_
  rintro e y1 ⟨rfl, g1⟩
  have B1 : Hid (Below w.heap.size w y1) := HB1.out.trans (g1.mono HB1.out.size)
  have p0 := cell_thru g1 v0
  have p1 := cell_thru g1 v1
  have p2 := cell_thru g1 v2
  clear g1 v0 v1 v2
  cases hm : m.may with
  | false =>
    have HE1 : Hid (R1 = ByteArray.empty) := by show _ = _; rw [← HR1.out, hm]; rfl
    have HE2 : Hid (R2 = 1) := by show _ = _; rw [← HR2.out, hm]; rfl
    go_wp2
    go_ret2
    exact ⟨by rw [HE1.out, HE2.out]; rfl, B1.out⟩
  | true =>
    have HE1 : Hid (R1 = strOfNums (formI m)) := by show _ = _; rw [← HR1.out, hm]; rfl
    have HE2 : Hid (R2 = 0) := by show _ = _; rw [← HR2.out, hm]; rfl
    obtain ⟨hc, hdl, hs, hr⟩ := may_parts (ImgD.may_obj hm)
    obtain ⟨hsl, hsf⟩ := syms_fit hs hc hdl
    have hc : code.size ≤ 65536 := by rw [← HCO.out]; exact hc
    have hdl : m.data.length ≤ 4096 := hdl
    have hsl : m.syms.length ≤ 1000 := hsl
    have hsf : ∀ s ∈ m.syms, SymFit s := hsf
    have n1 := H1.out.count
    have n2 := H2.out.count
    have HL1 : Hid ((m.data.flatMap long).length ≤ 8 * m.data.length) := flat_len long 8 _ (fun x hx => by rw [(long_len (H1.out.fits x hx)).1]; decide)
    have HL2 : Hid ((m.syms.flatMap symB).length ≤ 1100 * m.syms.length) := flat_len symB 1100 _ (fun x hx => symB_len (hsf x hx).1)
    have HSF : Hid _ := hsf
    have HN1 : Hid _ := n1
    have HN2 : Hid _ := n2
    have hl1 : l1 ≤ 4096 := by omega
    have hl2 : l2 ≤ 1000 := by omega
    have hp1 := W.put_length (code.size : Int)
    have hp2 := W.put_length (l1 : Int)
    have hnl := nums_len code
    have HFB : Hid (∀ ys, ys = [73, 77, 71, 49] ++ txt m.code ++ (W.put m.data.length ++ m.data.flatMap long) ++ (W.put m.syms.length ++ m.syms.flatMap symB) → ys = formI m) := fun ys e => e
    rw [HCO.out] at HFB
    obtain ⟨W2, hW2⟩ : ∃ W2, y1.alloc (.cells #[.int .u8 73, .int .u8 77, .int .u8 71, .int .u8 49] 5 (4, 5)) = W2 := ⟨_, rfl⟩
    have b2 : Below y1.heap.size y1 W2 := by subst hW2; exact bl_one _ _
    have hcv : (convert 74 74 (.slice (some ⟨y1.heap.size, 0, none⟩) 4 4)).run Tryd.prog (y1.alloc (.cells #[.int .u8 73, .int .u8 77, .int .u8 71, .int .u8 49] 5)) = .ok (.slice (some ⟨y1.heap.size, 0, none⟩) 4 4) W2 := by
      rw [← hW2]
      exact Go.Joins.run_convert_bytes_const_at y1 74 5 #[.int .u8 73, .int .u8 77, .int .u8 71, .int .u8 49] 4 4 y1.heap.size rfl Tryd.underlying74 Tryd.underlying5
    have HC2 : Hid (∀ j u, (([73, 77, 71, 49] : List Int).map (Value.int .u8))[j]? = some u → W2.cell? ⟨y1.heap.size, j, none⟩ = some u) := fun j u hu => by
      subst hW2
      rw [World.cell?_alloc_mark]
      simpa using hu
    have u0 := cell_thru b2 p0
    have u1 := cell_thru b2 p1
    have u2 := cell_thru b2 p2
    have Q2 : Hid (Below w.heap.size w W2) := B1.out.trans (b2.mono B1.out.size)
    have hlt1 : w.heap.size < y1.heap.size := World.block_lt_of_cell? y1 ⟨w.heap.size, 0, none⟩ p0
    have hB2 : w.heap.size + 1 ≤ W2.heap.size := by have := b2.size; omega
    clear p0 p1 p2 b2 hs hr hsf hm n1 n2 hdl hsl
    go_wp2_with fail
    refine (text_full (xs := [73, 77, 71, 49]) rfl HC2.out code (by omega) (by decide)).mono ?_
    rintro e w3 ⟨x3, rfl, o3', g3⟩
    have o3 := row_base o3' hB2
    have q3 : Below w.heap.size w w3 := Q2.out.trans (g3.mono Q2.out.size)
    have hB3 : w.heap.size + 1 ≤ w3.heap.size := Nat.le_trans hB2 g3.size
    have c1' := cell_thru g3 u1
    have c2' := cell_thru g3 u2
    obtain ⟨y3, hy3⟩ : ∃ y, y = [73, 77, 71, 49] ++ txt code := ⟨_, rfl⟩
    rw [← hy3] at o3
    have hl3 : y3.length ≤ 100000 := by rw [hy3]; simp only [txt, List.length_append, List.length_cons, List.length_nil]; omega
    have HO3 : Hid (RowB w3 (w.heap.size + 1) x3 y3) := o3
    have HY3 : Hid _ := hy3
    have Q3 : Hid _ := q3
    clear o3 o3' g3 hy3 u0 u1 u2 hcv q3
    go_wp2_with fail
    refine (listI_any HO3.out hB3 (H1.out.below Q3.out) (fun hl => apart_I (row_base HO3.out (Nat.le_succ _)) H1.out hl) H1.out.fits (by omega) (by omega)).mono ?_
    rintro e w4 ⟨x4, rfl, o4, g4⟩
    have q4 : Below w.heap.size w w4 := Q3.out.trans (row_below HO3.out g4 hB3)
    have hB4 : w.heap.size + 1 ≤ w4.heap.size := Nat.le_trans hB3 g4.grown.size
    have d2 := g4.cell c2' (row_ne HO3.out)
    obtain ⟨y4, hy4⟩ : ∃ y, y = y3 ++ (W.put l1 ++ m.data.flatMap long) := ⟨_, rfl⟩
    rw [← hy4] at o4
    have hl4 : y4.length ≤ 200000 := by rw [hy4]; simp only [List.length_append]; have := HL1.out; have := HN1.out; omega
    have HO4 : Hid (RowB w4 (w.heap.size + 1) x4 y4) := o4
    have HY4 : Hid _ := hy4
    have Q4 : Hid _ := q4
    clear o4 g4 hy4 c1' c2' q4
    go_wp2_with fail
    refine (listS_any HO4.out hB4 (H2.out.below Q4.out) (fun hl => apart_S (row_base HO4.out (Nat.le_succ _)) H2.out hl) HSF.out (by omega) (by omega)).mono ?_
    rintro e w5 ⟨x5, rfl, o5, g5⟩
    have q5 : Below w.heap.size w w5 := Q4.out.trans (row_below HO4.out g5 hB4)
    have o6 : RowB w5 w.heap.size x5 (formI m) := by
      rw [← HFB.out (y4 ++ (W.put l2 ++ m.syms.flatMap symB)) (by rw [HY4.out, HY3.out, HN1.out, HN2.out])]
      exact row_base o5 (Nat.le_succ _)
    have Q5 : Hid _ := q5
    have hcv := conv_own o6
    clear o5 g5 o6 d2 q5
    go_wp2_with fail
    go_ret2
    exact ⟨by rw [HE1.out, HE2.out]; rfl, Q5.out⟩
end Go.Proofs.YtffokdldgdjkhaaDoor

/- What image.Read comes to. -/
namespace Go.Proofs.YtffokdldgdjkhaaDoor
set_option maxRecDepth 100000
open Go.RowKit Go.Maps Go.Lib
set_option linter.unusedVariables false
set_option linter.unusedSimpArgs false

def img1 : ByteArray := ⟨#[73, 77, 71, 49]⟩
def noImgV : Value := .agg #[.string { data := #[] }, .slice none 0 0, .slice none 0 0]
/-- What stands behind the mark, as an object's form. -/
def behind (s : ByteArray) : ByteArray := cot1 ++ s ++ strOfNums (W.put 0)
def rdBodyI (s : ByteArray) : Option ImgD := match rdObj (behind s) with
  | none => none
  | some o => if o.rels.length = 0 then some ⟨o.code, o.data, o.syms⟩ else none
def markedI (s : ByteArray) : Prop := 4 ≤ s.size ∧ s.extract 0 4 = img1
instance (s : ByteArray) : Decidable (markedI s) := inferInstanceAs (Decidable (_ ∧ _))
def rdImg (s : ByteArray) : Option ImgD := if markedI s then (match rdBodyI (s.extract 4 s.size) with
  | none => none
  | some m => if m.may = true then some m else none) else none

theorem img_list (t : ByteArray) : (t.toList == [73, 77, 71, 49]) = decide (t = img1) := by
  rw [ByteArray.toList_eq]
  by_cases e : t = img1
  · subst e; rfl
  · rw [decide_eq_false e]; exact beq_eq_false_iff_ne.2 (fun h => e (bytes_ext h))

set_option maxHeartbeats 4000000 in
theorem pre_any (s : ByteArray) (w : World) : Calls Tryd.prog 71 #[.string s, .string { data := #[73, 77, 71, 49] }] w fun e w' => e = .returned (.bool (decide (markedI s))) ∧ w' = w := by
  by_cases h4 : 4 ≤ s.size
  · have HG : Hid (decide (markedI s) = decide (s.extract 0 4 = img1)) := by show _ = _; congr 1; exact propext ⟨fun h => h.2, fun h => ⟨h4, h⟩⟩
    rw [HG.out, ← img_list]
    have h4' : (4 : Int) ≤ s.size := by omega
    generalize hR : ((s.extract 0 4).toList == [73, 77, 71, 49]) = R
    go_enter Tryd.func71, Tryd.ntmps71
    go_wp2
    go_ret
    exact ⟨rfl, rfl⟩
  · have HG : Hid (decide (markedI s) = false) := decide_eq_false (fun h => h4 h.1)
    rw [HG.out]
    have h4' : ¬ (4 : Int) ≤ s.size := by omega
    go_enter Tryd.func71, Tryd.ntmps71
    go_wp2
    go_ret
    exact ⟨rfl, rfl⟩

theorem cut2_any (s : ByteArray) (w : World) : Calls Tryd.prog 50 #[.string s, .string { data := #[73, 77, 71, 49] }] w fun e w' => e = .returned (.tuple #[.string (if markedI s then s.extract 4 s.size else s), .bool (decide (markedI s))]) ∧ w' = w := by
  by_cases h : markedI s
  · rw [if_pos h]
    have h4 := h.1
    have h4' : (4 : Int) ≤ s.size := by omega
    have HD : Hid (decide (markedI s) = true) := decide_eq_true h
    rw [HD.out]
    clear h
    go_enter Tryd.func50, Tryd.ntmps50
    go_wp2_with (go_at_call 71; refine (pre_any s _).mono ?_; rintro e y ⟨rfl, rfl⟩; rw [HD.out])
    go_ret2
    exact ⟨rfl, rfl⟩
  · rw [if_neg h]
    have HD : Hid (decide (markedI s) = false) := decide_eq_false h
    rw [HD.out]
    clear h
    go_enter Tryd.func50, Tryd.ntmps50
    go_wp2_with (go_at_call 71; refine (pre_any s _).mono ?_; rintro e y ⟨rfl, rfl⟩; rw [HD.out])
    go_ret2
    exact ⟨rfl, rfl⟩
theorem cut_any (s : ByteArray) (w : World) : Calls Tryd.prog 32 #[.string s, .string { data := #[73, 77, 71, 49] }] w fun e w' => e = .returned (.tuple #[.string (if markedI s then s.extract 4 s.size else s), .bool (decide (markedI s))]) ∧ w' = w := by
  generalize hR1 : (if markedI s then s.extract 4 s.size else s) = R1
  generalize hR2 : decide (markedI s) = R2
  have H1 : Hid _ := hR1
  have H2 : Hid _ := hR2
  clear hR1 hR2
  go_enter Tryd.func32, Tryd.ntmps32
  go_wp2_with (go_at_call 50; refine (cut2_any s _).mono ?_; rintro e y ⟨rfl, rfl⟩; rw [H1.out, H2.out])
  go_ret2
  exact ⟨rfl, rfl⟩

/-- What readBody hands back. -/
def BodyIs (w w' : World) (e : Ending) (s : ByteArray) : Prop := ((∃ m, rdBodyI s = some m ∧ ∃ a1 l1 c1 a2 l2 c2, e = .returned (.tuple #[.agg #[.string m.code, .slice a1 l1 c1, .slice a2 l2 c2], .bool true]) ∧ ImgV w' (.agg #[.string m.code, .slice a1 l1 c1, .slice a2 l2 c2]) m) ∨ (rdBodyI s = none ∧ e = .returned (.tuple #[noImgV, .bool false]))) ∧ Below w.heap.size w w'

set_option maxHeartbeats 8000000 in
theorem body_any (s : ByteArray) (hs : s.size ≤ 4611686018427387904) (w : World) :
    Calls Tryd.prog 33 #[.string s] w fun e w' => BodyIs w w' e s := by
  have h1 : ¬ 9223372036854775807 < 4 + s.size := by omega
  have hput : W.put 0 = [0] := by decide
  have hps : (strOfNums (W.put 0)).size = 1 := by rw [hput]; rfl
  have HBE : Hid (behind s = { data := #[67, 79, 84, 49] } ++ s ++ strOfNums (W.put 0)) := rfl
  have HBS : Hid ((behind s).size ≤ maxLen) := by
    show _ ≤ _
    rw [HBE.out, ByteArray.size_append, ByteArray.size_append, hps]
    show 4 + s.size + 1 ≤ maxLen
    unfold maxLen; omega
  obtain ⟨pz, hpz⟩ : ∃ pz, strOfNums (W.put 0) = pz := ⟨_, rfl⟩
  have HPZ : Hid _ := hpz
  rw [hpz] at hps HBE
  have h2 : ¬ 9223372036854775807 < (({ data := #[67, 79, 84, 49] } : ByteArray) ++ s).size + pz.size := by rw [ByteArray.size_append, hps]; show ¬ 9223372036854775807 < 4 + s.size + 1; omega
  obtain ⟨W1, hW1⟩ : ∃ W1, w.alloc (.cells #[.string { data := #[] }, .slice none 0 0, .slice none 0 0] 25) = W1 := ⟨_, rfl⟩
  have b1 : Below w.heap.size w W1 := by subst hW1; exact bl_one _ _
  have HB1 : Hid _ := b1
  have v0 : W1.cell? ⟨w.heap.size, 0, none⟩ = some (.string { data := #[] }) := by subst hW1; exact cell_last rfl rfl
  have v1 : W1.cell? ⟨w.heap.size, 1, none⟩ = some (.slice none 0 0) := by subst hW1; exact cell_last rfl rfl
  have v2 : W1.cell? ⟨w.heap.size, 2, none⟩ = some (.slice none 0 0) := by subst hW1; exact cell_last rfl rfl
  have f0 : ∀ j, W1.frozen? ⟨w.heap.size, j, none⟩ = false := by subst hW1; exact fun j => World.frozen?_alloc_at _ _ _ _ (by simp)
  have hww : w.heap.size < W1.heap.size := by subst hW1; simp
  clear b1 hpz hput
  go_enter Tryd.func33, Tryd.ntmps33
  go_wp2_with (go_at_call 52; refine (put_any 0 (by decide) (by decide) _).mono ?_; rintro e y1 ⟨rfl, g1⟩; rw [HPZ.out]; have G1 : Hid _ := g1; clear g1)
  rw [← HBE.out]
  refine (read_any (behind s) HBS.out _).mono ?_
  rintro e y2 ⟨hcase, g2⟩
  have B12 : Hid (Below W1.heap.size W1 y2) := G1.out.trans (g2.mono G1.out.size)
  have B2 : Hid (Below w.heap.size w y2) := HB1.out.trans (B12.out.mono HB1.out.size)
  have p0 := cell_thru B12.out v0
  have p1 := cell_thru B12.out v1
  have p2 := cell_thru B12.out v2
  have F2 : Hid (∀ j, y2.frozen? ⟨w.heap.size, j, none⟩ = false) := fun j => (B12.out.frozen (p := ⟨w.heap.size, j, none⟩) hww).trans (f0 j)
  have hw2 : w.heap.size < y2.heap.size := Nat.lt_of_lt_of_le hww B12.out.size
  have hwy : w.heap.size < y1.heap.size := Nat.lt_of_lt_of_le hww G1.out.size
  clear g2 v0 v1 v2 f0 h1 h2
  have key : ∃ (code : ByteArray) (a1 : Option Addr) (l1 c1 : Nat) (a2 : Option Addr) (l2 c2 : Nat) (a3 : Option Addr) (l3 c3 : Nat) (er : Int), e = .returned (.tuple #[.agg #[.string code, .slice a1 l1 c1, .slice a2 l2 c2, .slice a3 l3 c3], .int .i64 er]) ∧ ((∃ o : ObjD, rdObj (behind s) = some o ∧ er = 0 ∧ o.code = code ∧ o.rels.length = l3 ∧ ObjF y1.heap.size y2 (.agg #[.string code, .slice a1 l1 c1, .slice a2 l2 c2, .slice a3 l3 c3]) o) ∨ (rdObj (behind s) = none ∧ er = 9)) := by
    rcases hcase with ⟨o, hro, v, rfl, hF⟩ | ⟨hro, rfl⟩
    · obtain ⟨a1, l1, c1, a2, l2, c2, a3, l3, c3, hve, hcs, V1, V2, V3⟩ := hF.toV.form
      exact ⟨o.code, a1, l1, c1, a2, l2, c2, a3, l3, c3, 0, by rw [hve], .inl ⟨o, hro, rfl, rfl, V3.count, by rw [← hve]; exact hF⟩⟩
    · exact ⟨{ data := #[] }, none, 0, 0, none, 0, 0, none, 0, 0, 9, rfl, .inr ⟨hro, rfl⟩⟩
  obtain ⟨code, a1, l1, c1, a2, l2, c2, a3, l3, c3, er, rfl, hc⟩ := key
  have HCA : Hid _ := hc
  obtain ⟨Y3, hY3⟩ : ∃ Y3, y2.alloc (.cells #[.string code, .slice a1 l1 c1, .slice a2 l2 c2, .slice a3 l3 c3] 67) = Y3 := ⟨_, rfl⟩
  have b3 : Below y2.heap.size y2 Y3 := by subst hY3; exact bl_one _ _
  have q0 : Y3.cell? ⟨y2.heap.size, 0, none⟩ = some (.string code) := by subst hY3; exact cell_last rfl rfl
  have q1 : Y3.cell? ⟨y2.heap.size, 1, none⟩ = some (.slice a1 l1 c1) := by subst hY3; exact cell_last rfl rfl
  have q2 : Y3.cell? ⟨y2.heap.size, 2, none⟩ = some (.slice a2 l2 c2) := by subst hY3; exact cell_last rfl rfl
  have q3 : Y3.cell? ⟨y2.heap.size, 3, none⟩ = some (.slice a3 l3 c3) := by subst hY3; exact cell_last rfl rfl
  have r0 := cell_thru b3 p0
  have r1 := cell_thru b3 p1
  have r2 := cell_thru b3 p2
  have B3 : Hid (Below w.heap.size w Y3) := B2.out.trans (b3.mono B2.out.size)
  have z0 := (b3.frozen (p := ⟨w.heap.size, 0, none⟩) hw2).trans (F2.out 0)
  have z1 := (b3.frozen (p := ⟨w.heap.size, 1, none⟩) hw2).trans (F2.out 1)
  have z2 := (b3.frozen (p := ⟨w.heap.size, 2, none⟩) hw2).trans (F2.out 2)
  have hne : w.heap.size ≠ y2.heap.size := by omega
  have HB3 : Hid _ := b3
  clear hcase hc b3 p0 p1 p2
  by_cases hgood : er = 0 ∧ l3 = 0
  · obtain ⟨rfl, rfl⟩ := hgood
    obtain ⟨o, hro, -, hco, hl3, hF⟩ : ∃ o : ObjD, rdObj (behind s) = some o ∧ (0 : Int) = 0 ∧ o.code = code ∧ o.rels.length = 0 ∧ ObjF y1.heap.size y2 (.agg #[.string code, .slice a1 l1 c1, .slice a2 l2 c2, .slice a3 0 c3]) o := by
      rcases HCA.out with h | ⟨-, h⟩
      · exact h
      · exact absurd h (by decide)
    have HRD : Hid (rdBodyI s = some ⟨o.code, o.data, o.syms⟩) := by show _ = _; unfold rdBodyI; rw [hro]; simp only; rw [if_pos hl3]
    have HCO : Hid _ := hco
    have HF3 : Hid _ := hF.below HB3.out
    have HF4 : Hid (ObjF y1.heap.size (((Y3.setCell ⟨w.heap.size, 0, none⟩ (.string code)).setCell ⟨w.heap.size, 1, none⟩ (.slice a1 l1 c1)).setCell ⟨w.heap.size, 2, none⟩ (.slice a2 l2 c2)) (.agg #[.string code, .slice a1 l1 c1, .slice a2 l2 c2, .slice a3 0 c3]) o) := ((HF3.out.far _ _ hwy).far _ _ hwy).far _ _ hwy
    have B4 : Hid (Below w.heap.size w (((Y3.setCell ⟨w.heap.size, 0, none⟩ (.string code)).setCell ⟨w.heap.size, 1, none⟩ (.slice a1 l1 c1)).setCell ⟨w.heap.size, 2, none⟩ (.slice a2 l2 c2))) := ((B3.out.setCell (Nat.le_refl _) _).setCell (Nat.le_refl _) _).setCell (Nat.le_refl _) _
    clear hro hl3 hF hco HCA
    go_wp2_with fail
    refine bodyPost_ret (v := .tuple #[.agg #[.string code, .slice a1 l1 c1, .slice a2 l2 c2], .bool true]) (by simp [results, Tryd.results33, go_sem, r0, r1, r2]) rfl ?_
    refine ⟨.inl ⟨_, HRD.out, a1, l1, c1, a2, l2, c2, by rw [HCO.out], ?_⟩, B4.out⟩
    obtain ⟨b1, m1, d1, b2, m2, d2, b3, m3, d3, hve, hcs, V1, V2, V3⟩ := HF4.out.toV.form
    simp at hve
    obtain ⟨-, ⟨rfl, rfl, rfl⟩, ⟨rfl, rfl, rfl⟩, -⟩ := hve
    exact ⟨⟨_, _, _, _, _, _, rfl, hcs, V1, V2⟩⟩
  · have HRD : Hid (rdBodyI s = none) := by
      show _ = _
      unfold rdBodyI
      rcases HCA.out with ⟨o, hro, he, -, hl3, -⟩ | ⟨hro, -⟩
      · rw [hro]; simp only
        rw [if_neg (fun h => hgood ⟨he, by omega⟩)]
      · rw [hro]
    have B4 : Hid (Below w.heap.size w (((Y3.setCell ⟨w.heap.size, 0, none⟩ (.string { data := #[] })).setCell ⟨w.heap.size, 1, none⟩ (.slice none 0 0)).setCell ⟨w.heap.size, 2, none⟩ (.slice none 0 0))) := ((B3.out.setCell (Nat.le_refl _) _).setCell (Nat.le_refl _) _).setCell (Nat.le_refl _) _
    have key : er = 9 ∨ (er = 0 ∧ (0 : Int) < l3) := by
      rcases HCA.out with ⟨o, hro, he, -, hl3, -⟩ | ⟨hro, he⟩
      · right; refine ⟨he, ?_⟩; have : ¬ l3 = 0 := fun h => hgood ⟨he, h⟩; omega
      · exact .inl he
    clear hgood HCA
    rcases key with rfl | ⟨rfl, hp⟩
    all_goals
      go_wp2_with fail
      refine bodyPost_ret (v := .tuple #[noImgV, .bool false]) (by simp [results, Tryd.results33, go_sem, r0, r1, r2, noImgV]) rfl ?_
      exact ⟨.inr ⟨HRD.out, rfl⟩, B4.out⟩

/-- What Read hands back. -/
def RdIs (w w' : World) (e : Ending) (s : ByteArray) : Prop := ((∃ m, rdImg s = some m ∧ ∃ a1 l1 c1 a2 l2 c2, e = .returned (.tuple #[.agg #[.string m.code, .slice a1 l1 c1, .slice a2 l2 c2], .int .i64 0]) ∧ ImgV w' (.agg #[.string m.code, .slice a1 l1 c1, .slice a2 l2 c2]) m) ∨ (rdImg s = none ∧ e = .returned (.tuple #[noImgV, .int .i64 9]))) ∧ Below w.heap.size w w'
theorem IntsV.setI {w : World} {a : Option Addr} {l c : Nat} {zs : List Int} (h : IntsV w a l c zs) (p : Addr) (hp : ∀ b off, a = some ⟨b, off, none⟩ → 0 < l → b ≠ p.block) (v : Value) : IntsV (w.setCell p v) a l c zs := by
  refine ⟨h.count, h.fits, h.nilOf, ?_⟩
  rcases h.cells with h0 | ⟨b, off, ha, hc⟩
  · exact .inl h0
  · by_cases h0 : l = 0
    · exact .inl h0
    · exact .inr ⟨b, off, ha, fun i hi => by rw [World.cell?_setCell_far _ _ _ _ (fun e => hp b off ha (by omega) e.symm)]; exact hc i hi⟩
theorem SymsV.setI {w : World} {a : Option Addr} {l c : Nat} {zs : List Sym} (h : SymsV w a l c zs) (p : Addr) (hp : ∀ b off, a = some ⟨b, off, none⟩ → 0 < l → b ≠ p.block) (v : Value) : SymsV (w.setCell p v) a l c zs := by
  refine ⟨h.count, h.fits, h.nilOf, ?_⟩
  rcases h.cells with h0 | ⟨b, off, ha, hc⟩
  · exact .inl h0
  · by_cases h0 : l = 0
    · exact .inl h0
    · have hne : p.block ≠ b := fun e => hp b off ha (by omega) e.symm
      exact .inr ⟨b, off, ha, fun i hi => ⟨(World.cell?_setCell_far _ _ _ _ hne).trans (hc i hi).1, (World.cell?_setCell_far _ _ _ _ hne).trans (hc i hi).2.1, (World.cell?_setCell_far _ _ _ _ hne).trans (hc i hi).2.2⟩⟩
theorem ImgV.set3 {w : World} {g : Nat} {v : Value} {m : ImgD} (h : ImgV w v m) (hno : ∀ j n, w.cell? ⟨g, j, none⟩ ≠ some (.int .i64 n)) (u0 u1 u2 : Value) : ImgV (((w.setCell ⟨g, 0, none⟩ u0).setCell ⟨g, 1, none⟩ u1).setCell ⟨g, 2, none⟩ u2) v m := by
  obtain ⟨a1, l1, c1, a2, l2, c2, e, hs, h1, h2⟩ := h.form
  have k1 : ∀ b off, a1 = some ⟨b, off, none⟩ → 0 < l1 → b ≠ g := fun b off ha hl e => by
    rcases h1.cells with h0 | ⟨b', off', ha', hc⟩
    · omega
    · rw [ha] at ha'; cases ha'; subst e; exact hno _ _ (hc 0 hl)
  have k2 : ∀ b off, a2 = some ⟨b, off, none⟩ → 0 < l2 → b ≠ g := fun b off ha hl e => by
    rcases h2.cells with h0 | ⟨b', off', ha', hc⟩
    · omega
    · rw [ha] at ha'; cases ha'; subst e; exact hno _ _ (hc 0 hl).2.1
  exact ⟨⟨a1, l1, c1, a2, l2, c2, e, hs, ((h1.setI ⟨g, 0, none⟩ k1 u0).setI ⟨g, 1, none⟩ k1 u1).setI ⟨g, 2, none⟩ k1 u2, ((h2.setI ⟨g, 0, none⟩ k2 u0).setI ⟨g, 1, none⟩ k2 u1).setI ⟨g, 2, none⟩ k2 u2⟩⟩

set_option maxHeartbeats 8000000 in
theorem iread_img (s : ByteArray) (hs : s.size ≤ 4611686018427387904) (w : World) (ht : Tab w) :
    Calls Tryd.prog 13 #[.string s] w fun e w' => RdIs w w' e s := by
  have HT : Hid _ := ht
  obtain ⟨W1, hW1⟩ : ∃ W1, w.alloc (.cells #[.string { data := #[] }, .slice none 0 0, .slice none 0 0] 25) = W1 := ⟨_, rfl⟩
  have b1 : Below w.heap.size w W1 := by subst hW1; exact bl_one _ _
  have HB1 : Hid _ := b1
  have v0 : W1.cell? ⟨w.heap.size, 0, none⟩ = some (.string { data := #[] }) := by subst hW1; exact cell_last rfl rfl
  have v1 : W1.cell? ⟨w.heap.size, 1, none⟩ = some (.slice none 0 0) := by subst hW1; exact cell_last rfl rfl
  have v2 : W1.cell? ⟨w.heap.size, 2, none⟩ = some (.slice none 0 0) := by subst hW1; exact cell_last rfl rfl
  have f0 : ∀ j, W1.frozen? ⟨w.heap.size, j, none⟩ = false := by subst hW1; exact fun j => World.frozen?_alloc_at _ _ _ _ (by simp)
  have hww : w.heap.size < W1.heap.size := by subst hW1; simp
  have HNI : Hid (∀ j n, W1.cell? ⟨w.heap.size, j, none⟩ ≠ some (.int .i64 n)) := by
    intro j n
    subst hW1
    match j with
    | 0 => simp
    | 1 => simp
    | 2 => simp
    | j + 3 => simp
  clear b1 ht
  by_cases hmk : markedI s
  rotate_left
  · have HRD : Hid (rdImg s = none) := if_neg hmk
    have HM1 : Hid ((if markedI s then s.extract 4 s.size else s) = s) := if_neg hmk
    have HM2 : Hid (decide (markedI s) = false) := decide_eq_false hmk
    have z0 := f0 0
    have z1 := f0 1
    have z2 := f0 2
    have B4 : Hid (Below w.heap.size w (((W1.setCell ⟨w.heap.size, 0, none⟩ (.string { data := #[] })).setCell ⟨w.heap.size, 1, none⟩ (.slice none 0 0)).setCell ⟨w.heap.size, 2, none⟩ (.slice none 0 0))) := ((HB1.out.setCell (Nat.le_refl _) _).setCell (Nat.le_refl _) _).setCell (Nat.le_refl _) _
    clear f0 hmk
    go_enter Tryd.func13, Tryd.ntmps13
    go_wp2_with (go_at_call 32; refine (cut_any s _).mono ?_; rintro e y ⟨rfl, rfl⟩; rw [HM1.out, HM2.out])
    refine bodyPost_ret (v := .tuple #[noImgV, .int .i64 9]) (by simp [results, Tryd.results13, go_sem, v0, v1, v2, noImgV]) rfl ?_
    exact ⟨.inr ⟨HRD.out, rfl⟩, B4.out⟩
  have HM2 : Hid (decide (markedI s) = true) := decide_eq_true hmk
  have HRD0 : Hid (rdImg s = (match rdBodyI (s.extract 4 s.size) with | none => none | some m => if m.may = true then some m else none)) := if_pos hmk
  have HSZ : Hid ((s.extract 4 s.size).size ≤ 4611686018427387904) := by show _ ≤ _; rw [ByteArray.size_extract]; omega
  obtain ⟨bd, hbd⟩ : ∃ bd, s.extract 4 s.size = bd := ⟨_, rfl⟩
  have HM1 : Hid ((if markedI s then s.extract 4 s.size else s) = bd) := (if_pos hmk).trans hbd
  rw [hbd] at HRD0 HSZ
  clear hmk hbd
  go_enter Tryd.func13, Tryd.ntmps13
  go_wp2_with (go_at_call 32; refine (cut_any s _).mono ?_; rintro e y ⟨rfl, rfl⟩; rw [HM1.out, HM2.out])
  refine (body_any bd HSZ.out _).mono ?_
  rintro e y2 ⟨hcase, g2⟩
  have p0 := cell_thru g2 v0
  have p1 := cell_thru g2 v1
  have p2 := cell_thru g2 v2
  have G2 : Hid _ := g2
  have B2 : Hid (Below w.heap.size w y2) := HB1.out.trans (g2.mono HB1.out.size)
  have F2 : Hid (∀ j, y2.frozen? ⟨w.heap.size, j, none⟩ = false) := fun j => (g2.frozen (p := ⟨w.heap.size, j, none⟩) hww).trans (f0 j)
  have hw2 : w.heap.size < y2.heap.size := Nat.lt_of_lt_of_le hww g2.size
  have key : ∃ (code : ByteArray) (a1 : Option Addr) (l1 c1 : Nat) (a2 : Option Addr) (l2 c2 : Nat) (ok : Bool), e = .returned (.tuple #[.agg #[.string code, .slice a1 l1 c1, .slice a2 l2 c2], .bool ok]) ∧ ((∃ m : ImgD, rdBodyI bd = some m ∧ ok = true ∧ m.code = code ∧ ImgV y2 (.agg #[.string code, .slice a1 l1 c1, .slice a2 l2 c2]) m) ∨ (rdBodyI bd = none ∧ ok = false)) := by
    rcases hcase with ⟨m, hro, a1, l1, c1, a2, l2, c2, rfl, hV⟩ | ⟨hro, rfl⟩
    · exact ⟨m.code, a1, l1, c1, a2, l2, c2, true, rfl, .inl ⟨m, hro, rfl, rfl, hV⟩⟩
    · exact ⟨{ data := #[] }, none, 0, 0, none, 0, 0, false, rfl, .inr ⟨hro, rfl⟩⟩
  obtain ⟨code, a1, l1, c1, a2, l2, c2, ok, rfl, hc⟩ := key
  obtain ⟨Y3, hY3⟩ : ∃ Y3, y2.alloc (.cells #[.string code, .slice a1 l1 c1, .slice a2 l2 c2] 25) = Y3 := ⟨_, rfl⟩
  have b3 : Below y2.heap.size y2 Y3 := by subst hY3; exact bl_one _ _
  have q0 : Y3.cell? ⟨y2.heap.size, 0, none⟩ = some (.string code) := by subst hY3; exact cell_last rfl rfl
  have q1 : Y3.cell? ⟨y2.heap.size, 1, none⟩ = some (.slice a1 l1 c1) := by subst hY3; exact cell_last rfl rfl
  have q2 : Y3.cell? ⟨y2.heap.size, 2, none⟩ = some (.slice a2 l2 c2) := by subst hY3; exact cell_last rfl rfl
  have r0 := cell_thru b3 p0
  have r1 := cell_thru b3 p1
  have r2 := cell_thru b3 p2
  have B3 : Hid (Below w.heap.size w Y3) := B2.out.trans (b3.mono B2.out.size)
  have hne : w.heap.size ≠ y2.heap.size := by omega
  have HB3 : Hid _ := b3
  have F3 : Hid (∀ j, Y3.frozen? ⟨w.heap.size, j, none⟩ = false) := fun j => (b3.frozen (p := ⟨w.heap.size, j, none⟩) hw2).trans (F2.out j)
  have hw3 : w.heap.size < Y3.heap.size := Nat.lt_of_lt_of_le hw2 b3.size
  have HCA : Hid _ := hc
  clear hcase g2 v0 v1 v2 f0 b3 p0 p1 p2 hc
  cases ok with
  | false =>
    have HRD : Hid (rdImg s = none) := by
      show _ = _
      rw [HRD0.out]
      rcases HCA.out with ⟨m, -, h, -⟩ | ⟨h, -⟩
      · exact absurd h (by decide)
      · rw [h]
    have z0 := F3.out 0
    have z1 := F3.out 1
    have z2 := F3.out 2
    have B4 : Hid (Below w.heap.size w (((Y3.setCell ⟨w.heap.size, 0, none⟩ (.string { data := #[] })).setCell ⟨w.heap.size, 1, none⟩ (.slice none 0 0)).setCell ⟨w.heap.size, 2, none⟩ (.slice none 0 0))) := ((B3.out.setCell (Nat.le_refl _) _).setCell (Nat.le_refl _) _).setCell (Nat.le_refl _) _
    go_wp2_with fail
    refine bodyPost_ret (v := .tuple #[noImgV, .int .i64 9]) (by simp [results, Tryd.results13, go_sem, r0, r1, r2, noImgV]) rfl ?_
    exact ⟨.inr ⟨HRD.out, rfl⟩, B4.out⟩
  | true =>
    obtain ⟨m, hro, -, hco, hV⟩ : ∃ m : ImgD, rdBodyI bd = some m ∧ true = true ∧ m.code = code ∧ ImgV y2 (.agg #[.string code, .slice a1 l1 c1, .slice a2 l2 c2]) m := by
      rcases HCA.out with h | ⟨-, h⟩
      · exact h
      · exact absurd h (by decide)
    rw [hro] at HRD0
    simp only at HRD0
    have HV3 : Hid _ := hV.below HB3.out
    have HCO : Hid _ := hco
    clear hro hco hV HCA
    go_wp2_with fail
    refine (imay_any HV3.out (Tab.below HT.out B3.out)).mono ?_
    rintro e y4 ⟨rfl, g4⟩
    have B4 : Hid (Below w.heap.size w y4) := B3.out.trans (g4.mono B3.out.size)
    have s0 := cell_thru g4 r0
    have s1 := cell_thru g4 r1
    have s2 := cell_thru g4 r2
    have t0 := cell_thru g4 q0
    have t1 := cell_thru g4 q1
    have t2 := cell_thru g4 q2
    have z0 := (g4.frozen (p := ⟨w.heap.size, 0, none⟩) hw3).trans (F3.out 0)
    have z1 := (g4.frozen (p := ⟨w.heap.size, 1, none⟩) hw3).trans (F3.out 1)
    have z2 := (g4.frozen (p := ⟨w.heap.size, 2, none⟩) hw3).trans (F3.out 2)
    have HV4 : Hid _ := HV3.out.below g4
    have HW14 : Hid (Below y.heap.size y y4) := (G2.out.trans (HB3.out.mono G2.out.size)).trans (g4.mono (Nat.le_trans G2.out.size HB3.out.size))
    clear g4 q0 q1 q2 r0 r1 r2
    cases hm : m.may with
    | false =>
      have HRD : Hid (rdImg s = none) := by show _ = _; rw [HRD0.out, hm]; rfl
      have B5 : Hid (Below w.heap.size w (((y4.setCell ⟨w.heap.size, 0, none⟩ (.string { data := #[] })).setCell ⟨w.heap.size, 1, none⟩ (.slice none 0 0)).setCell ⟨w.heap.size, 2, none⟩ (.slice none 0 0))) := ((B4.out.setCell (Nat.le_refl _) _).setCell (Nat.le_refl _) _).setCell (Nat.le_refl _) _
      go_wp2_with fail
      refine bodyPost_ret (v := .tuple #[noImgV, .int .i64 9]) (by simp [results, Tryd.results13, go_sem, s0, s1, s2, noImgV]) rfl ?_
      exact ⟨.inr ⟨HRD.out, rfl⟩, B5.out⟩
    | true =>
      have HRD : Hid (rdImg s = some m) := by show _ = _; rw [HRD0.out, hm]; rfl
      have B5 : Hid (Below w.heap.size w (((y4.setCell ⟨w.heap.size, 0, none⟩ (.string code)).setCell ⟨w.heap.size, 1, none⟩ (.slice a1 l1 c1)).setCell ⟨w.heap.size, 2, none⟩ (.slice a2 l2 c2))) := ((B4.out.setCell (Nat.le_refl _) _).setCell (Nat.le_refl _) _).setCell (Nat.le_refl _) _
      go_wp2_with fail
      refine bodyPost_ret (v := .tuple #[.agg #[.string code, .slice a1 l1 c1, .slice a2 l2 c2], .int .i64 0]) (by simp [results, Tryd.results13, go_sem, s0, s1, s2]) rfl ?_
      refine ⟨.inl ⟨m, HRD.out, a1, l1, c1, a2, l2, c2, by rw [HCO.out], ?_⟩, B5.out⟩
      rw [HCO.out]
      refine ImgV.set3 HV4.out (fun j n e => HNI.out j n ?_) _ _ _
      exact (HW14.out.cell (p := ⟨w.heap.size, j, none⟩) hww).symm.trans e
end Go.Proofs.YtffokdldgdjkhaaDoor

/- Images there and back, no program in sight; and what the document's Same comes to. -/
namespace Go.Proofs.YtffokdldgdjkhaaDoor
set_option maxRecDepth 100000
open Go.RowKit Go.Maps Go.Lib
set_option linter.unusedVariables false
set_option linter.unusedSimpArgs false

theorem nums_app (a b : ByteArray) : nums (a ++ b) = nums a ++ nums b := by unfold nums; simp [W.tail]
theorem put_zero : W.put 0 = [0] := by decide
theorem formB_img (m : ImgD) : formB m.obj = [67, 79, 84, 49] ++ bodyI m ++ [0] := by
  simp [formB, bodyI, ImgD.obj, put_zero]
theorem nums_behind (b : ByteArray) : nums (behind b) = [67, 79, 84, 49] ++ nums b ++ [0] := by
  unfold behind
  rw [nums_app, nums_app, nums_cot1, put_zero]
  rfl
theorem nums_split {s : ByteArray} (h : 4 ≤ s.size) : nums s = nums (s.extract 0 4) ++ nums (s.extract 4 s.size) := by
  have h1 := nums_sub s 0 4
  have h2 := nums_sub s 4 (s.size - 4)
  unfold sub at h1 h2
  rw [Nat.zero_add] at h1
  rw [show 4 + (s.size - 4) = s.size by omega] at h2
  rw [h1, h2]
  have h3 : W.tail s (0 + 4) = (W.tail s 0).drop 4 := tail_drop s 0 4
  rw [Nat.zero_add] at h3
  have h4 : (W.tail s 4).length = s.size - 4 := by simp [W.tail]
  have h5 : (W.tail s 4).take (s.size - 4) = W.tail s 4 := List.take_of_length_le (by omega)
  rw [h5, h3]
  unfold nums
  exact (List.take_append_drop 4 _).symm
theorem wrI_rd {s : ByteArray} {m : ImgD} (h : rdImg s = some m) : strOfNums (formI m) = s ∧ m.may = true ∧ ObjIn m.obj := by
  unfold rdImg at h
  split at h
  · rename_i hmk
    unfold rdBodyI at h
    cases ho : rdObj (behind (s.extract 4 s.size)) with
    | none => rw [ho] at h; simp at h
    | some o =>
      rw [ho] at h
      simp only at h
      by_cases hr : o.rels.length = 0
      · rw [if_pos hr] at h
        simp only at h
        split at h
        · rename_i hm
          injection h with h
          subst h
          have hre : o.rels = [] := List.eq_nil_of_length_eq_zero hr
          have hobj : (ImgD.mk o.code o.data o.syms).obj = o := by cases o; simp only at hre; subst hre; rfl
          obtain ⟨h1, h2, h3⟩ := obj_sound ho
          refine ⟨?_, hm, by rw [hobj]; exact h2⟩
          rw [nums_behind, ← hobj, formB_img] at h1
          have h4 : nums (s.extract 4 s.size) = bodyI ⟨o.code, o.data, o.syms⟩ := by simpa using h1
          have h5 : nums s = formI ⟨o.code, o.data, o.syms⟩ := by
            rw [nums_split hmk.1, hmk.2, h4, formI_eq]
            rfl
          rw [← h5]
          exact str_nums s
        · simp at h
      · rw [if_neg hr] at h; simp at h
  · simp at h
theorem body_bd {m : ImgD} (h : ObjIn m.obj) : ∀ n ∈ formI m, 0 ≤ n ∧ n ≤ 255 := fun n hn => by
  rw [formI_eq] at hn
  rcases List.mem_append.1 hn with h1 | h1
  · simp at h1; omega
  · exact form_bd h n (by rw [formB_img]; simp [h1])
theorem rd_wrI {m : ImgD} (h : ObjIn m.obj) (hm : m.may = true) : rdImg (strOfNums (formI m)) = some m := by
  have hn : nums (strOfNums (formI m)) = formI m := nums_of (body_bd h)
  have hsz : (strOfNums (formI m)).size = (formI m).length := size_of (body_bd h)
  generalize strOfNums (formI m) = s at hn hsz
  have h4 : 4 ≤ s.size := by rw [hsz, formI_eq]; simp
  have hsp := nums_split h4
  rw [hn, formI_eq] at hsp
  have hl4 : (nums (s.extract 0 4)).length = 4 := by
    have := nums_sub s 0 4
    unfold sub at this
    rw [Nat.zero_add] at this
    rw [this, List.length_take]
    have : (W.tail s 0).length = s.size := by simp [W.tail]
    omega
  have e1 := List.append_inj hsp (by rw [hl4]; rfl)
  have hx : s.extract 0 4 = img1 := bytes_nums (by rw [← e1.1]; rfl)
  have hob : rdObj (behind (s.extract 4 s.size)) = some m.obj := obj_compl h (ImgD.may_obj hm) (by rw [nums_behind, ← e1.2, formB_img])
  unfold rdImg
  rw [if_pos ⟨h4, hx⟩]
  unfold rdBodyI
  rw [hob]
  simp only
  rw [if_pos (show m.obj.rels.length = 0 from rfl)]
  simp only
  have : (ImgD.mk m.obj.code m.obj.data m.obj.syms) = m := rfl
  rw [this, if_pos hm]
theorem ImgV.isin {w : World} {v : Value} {m : ImgD} (h : ImgV w v m) (hm : m.may = true) : ObjIn m.obj := by
  obtain ⟨a1, l1, c1, a2, l2, c2, e, hs, h1, h2⟩ := h.form
  exact may_in (ImgD.may_obj hm) h1.fits (by simp [ImgD.obj])
theorem wrI_size {m : ImgD} (h : ObjIn m.obj) : (strOfNums (formI m)).size ≤ 100000000 := by
  have h1 := wr_size h
  unfold wrB at h1
  rw [size_of (form_bd h), formB_img] at h1
  rw [size_of (body_bd h), formI_eq]
  simp at h1 ⊢
  omega

set_option maxHeartbeats 8000000 in
theorem isame_any {w : World} {v v' : Value} {m p : ImgD} (h : ImgV w v m) (h' : ImgV w v' p) (hl1 : m.data.length ≤ maxLen) (hl2 : m.syms.length ≤ maxLen) (bb : Bool) (hbb : bb = true ↔ m = p) :
    Calls Tryd.prog 15 #[v, v'] w fun e w' => e = .returned (.bool bb) ∧ Below w.heap.size w w' := by
  obtain ⟨a1, l1, c1, a2, l2, c2, rfl, hcs, h1, h2⟩ := h.form
  obtain ⟨a1', l1', c1', a2', l2', c2', rfl, hcs', h1', h2'⟩ := h'.form
  obtain ⟨code, data, syms⟩ := m
  obtain ⟨code', data', syms'⟩ := p
  simp only at hcs hcs' h1 h2 h1' h2' hl1 hl2 ⊢
  have H1 : Hid _ := h1
  have H2 : Hid _ := h2
  have H1' : Hid _ := h1'
  have H2' : Hid _ := h2'
  have HBB : Hid _ := hbb
  have HL1 : Hid (l1 ≤ maxLen) := by show _ ≤ _; rw [← h1.count]; exact hl1
  have HL2 : Hid (l2 ≤ maxLen) := by show _ ≤ _; rw [← h2.count]; exact hl2
  clear h h' h1 h2 h1' h2' hcs hcs' hbb hl1 hl2
  obtain ⟨W1, hW1⟩ : ∃ W1, (w.alloc (.cells #[.string code, .slice a1 l1 c1, .slice a2 l2 c2] 25)).alloc (.cells #[.string code', .slice a1' l1' c1', .slice a2' l2' c2'] 25) = W1 := ⟨_, rfl⟩
  have b1 : Below w.heap.size w W1 := by subst hW1; exact (bl_one _ _).alloc (by simp) _
  have HB1 : Hid _ := b1
  have v0 : W1.cell? ⟨w.heap.size, 0, none⟩ = some (.string code) := by subst hW1; rw [World.cell?_alloc_past _ _ _ (by simp)]; simp
  have v1 : W1.cell? ⟨w.heap.size, 1, none⟩ = some (.slice a1 l1 c1) := by subst hW1; rw [World.cell?_alloc_past _ _ _ (by simp)]; simp
  have v2 : W1.cell? ⟨w.heap.size, 2, none⟩ = some (.slice a2 l2 c2) := by subst hW1; rw [World.cell?_alloc_past _ _ _ (by simp)]; simp
  have u0 : W1.cell? ⟨w.heap.size + 1, 0, none⟩ = some (.string code') := by subst hW1; exact cell_last (by simp) rfl
  have u1 : W1.cell? ⟨w.heap.size + 1, 1, none⟩ = some (.slice a1' l1' c1') := by subst hW1; exact cell_last (by simp) rfl
  have u2 : W1.cell? ⟨w.heap.size + 1, 2, none⟩ = some (.slice a2' l2' c2') := by subst hW1; exact cell_last (by simp) rfl
  clear b1
  by_cases hc : code = code'
  rotate_left
  · have HE : Hid (bb = false) := bool_no HBB.out (fun e => hc (by injection e))
    have hd := toList_ne hc
    clear hc
    go_enter Tryd.func15, Tryd.ntmps15
    go_wp2
    go_ret
    exact ⟨by rw [HE.out]; rfl, HB1.out⟩
  subst hc
  obtain ⟨b1, hb1⟩ := bool_of (data = data')
  obtain ⟨b2, hb2⟩ := bool_of (syms = syms')
  have HB1' : Hid _ := hb1
  have HB2' : Hid _ := hb2
  clear hb1 hb2
  go_enter Tryd.func15, Tryd.ntmps15
  go_wp2_with fail
  refine (samedata_any (H1.out.below HB1.out) (H1'.out.below HB1.out) HL1.out b1 HB1'.out).mono ?_
  rintro e y1 ⟨rfl, g1⟩
  have B1 : Hid (Below w.heap.size w y1) := HB1.out.trans (g1.mono HB1.out.size)
  have p2 := cell_thru g1 v2
  have q2 := cell_thru g1 u2
  clear g1 v0 v1 v2 u0 u1 u2
  cases b1 with
  | false =>
    have HE : Hid (bb = false) := bool_no HBB.out (fun e => by
      have : data = data' := by injection e
      exact absurd (HB1'.out.2 this) (by decide))
    go_wp2
    go_ret
    exact ⟨by rw [HE.out]; rfl, B1.out⟩
  | true =>
    have hde := HB1'.out.1 rfl
    have HDE : Hid _ := hde
    clear hde
    go_wp2_with fail
    refine (samesyms_any (H2.out.below B1.out) (H2'.out.below B1.out) HL2.out b2 HB2'.out).mono ?_
    rintro e y2 ⟨rfl, g2⟩
    have B2 : Hid (Below w.heap.size w y2) := B1.out.trans (g2.mono B1.out.size)
    clear g2
    have HE : Hid (bb = b2) := by
      show _ = _
      cases b2 with
      | false => exact bool_no HBB.out (fun e => by
          have : syms = syms' := by injection e
          exact absurd (HB2'.out.2 this) (by decide))
      | true => exact HBB.out.2 (by rw [HDE.out, HB2'.out.1 rfl])
    go_wp2
    go_ret
    exact ⟨by rw [HE.out]; rfl, B2.out⟩
end Go.Proofs.YtffokdldgdjkhaaDoor

/- What live, small and halt come to. (Written by gen_live.py.) -/
namespace Go.Proofs.YtffokdldgdjkhaaDoor
set_option maxRecDepth 100000
open Go.RowKit Go.Maps Go.Lib
set_option linter.unusedVariables false
set_option linter.unusedSimpArgs false

def haltI (k : Int) : ImgD := ⟨{ data := #[32] }, [], [⟨{ data := #[116] }, 3, k⟩]⟩
theorem may_halt0 : (haltI 0).may = true := by kernel_rfl
theorem may_halt1 : (haltI 1).may = false := by kernel_rfl
theorem form_halt : strOfNums (formI (haltI 0)) = { data := #[73, 77, 71, 49, 1, 32, 0, 1, 1, 116, 3, 0] } := by kernel_rfl
theorem thr_halt : thrs (haltI 0).syms = [{ data := #[116] }] := by kernel_rfl
theorem ImgV.drewI {w : World} {v : Value} {m : ImgD} (h : ImgV w v m) : ImgV w.drew v m := h.below (Below.refl _ _).drew

theorem halt_any (k : Int) (hk : (Lit.int .i64 k).wf = true) (w : World) : Calls Tryd.prog 12 #[.int .i64 k] w fun e w' => e = .returned (.agg #[.string { data := #[32] }, .slice none 0 0, .slice (some ⟨w.heap.size + 1, 0, none⟩) 1 1]) ∧ ImgV w' (.agg #[.string { data := #[32] }, .slice none 0 0, .slice (some ⟨w.heap.size + 1, 0, none⟩) 1 1]) (haltI k) ∧ Below w.heap.size w w' := by
  have HK : Hid _ := hk
  clear hk
  obtain ⟨W1, hW1⟩ : ∃ W1, (w.alloc (.cells #[.string { data := #[] }, .slice none 0 0, .slice none 0 0] 25)).alloc (.cells #[.string { data := #[116] }, .int .i64 3, .int .i64 k] 80) = W1 := ⟨_, rfl⟩
  have b1 : Below w.heap.size w W1 := by subst hW1; exact (bl_one _ _).alloc (by simp) _
  have HB1 : Hid _ := b1
  have v0 : W1.cell? ⟨w.heap.size, 0, none⟩ = some (.string { data := #[] }) := by subst hW1; rw [World.cell?_alloc_past _ _ _ (by simp)]; simp
  have v1 : W1.cell? ⟨w.heap.size, 1, none⟩ = some (.slice none 0 0) := by subst hW1; rw [World.cell?_alloc_past _ _ _ (by simp)]; simp
  have v2 : W1.cell? ⟨w.heap.size, 2, none⟩ = some (.slice none 0 0) := by subst hW1; rw [World.cell?_alloc_past _ _ _ (by simp)]; simp
  have u0 : W1.cell? ⟨w.heap.size + 1, 0, none⟩ = some (.string { data := #[116] }) := by subst hW1; exact cell_last (by simp) rfl
  have u1 : W1.cell? ⟨w.heap.size + 1, 1, none⟩ = some (.int .i64 3) := by subst hW1; exact cell_last (by simp) rfl
  have u2 : W1.cell? ⟨w.heap.size + 1, 2, none⟩ = some (.int .i64 k) := by subst hW1; exact cell_last (by simp) rfl
  have z0 : ∀ j, W1.frozen? ⟨w.heap.size, j, none⟩ = false := fun j => by
    subst hW1
    rw [(bl_one (w.alloc (.cells #[.string { data := #[] }, .slice none 0 0, .slice none 0 0] 25)) _).frozen (p := ⟨w.heap.size, j, none⟩) (by simp)]
    exact World.frozen?_alloc_at _ _ _ _ (by simp)
  have f0 := z0 0
  have f1 := z0 1
  have f2 := z0 2
  have HB2 : Hid (Below w.heap.size w (((W1.setCell ⟨w.heap.size, 0, none⟩ (.string { data := #[32] })).setCell ⟨w.heap.size, 1, none⟩ (.slice none 0 0)).setCell ⟨w.heap.size, 2, none⟩ (.slice (some ⟨w.heap.size + 1, 0, none⟩) 1 1))) := ((b1.setCell (Nat.le_refl _) _).setCell (Nat.le_refl _) _).setCell (Nat.le_refl _) _
  have far : ∀ (X : World) (j : Nat) (v u : Value) (o : Nat), X.cell? ⟨w.heap.size + 1, o, none⟩ = some u → (X.setCell ⟨w.heap.size, j, none⟩ v).cell? ⟨w.heap.size + 1, o, none⟩ = some u := fun X j v u o h => (World.cell?_setCell_far _ _ _ _ (show w.heap.size ≠ w.heap.size + 1 by omega)).trans h
  have HIV : Hid (ImgV (((W1.setCell ⟨w.heap.size, 0, none⟩ (.string { data := #[32] })).setCell ⟨w.heap.size, 1, none⟩ (.slice none 0 0)).setCell ⟨w.heap.size, 2, none⟩ (.slice (some ⟨w.heap.size + 1, 0, none⟩) 1 1)) (.agg #[.string { data := #[32] }, .slice none 0 0, .slice (some ⟨w.heap.size + 1, 0, none⟩) 1 1]) (haltI k)) := by
    refine ⟨⟨none, 0, 0, some ⟨w.heap.size + 1, 0, none⟩, 1, 1, rfl, (by decide : (1 : Nat) ≤ maxLen), ⟨rfl, by simp [haltI], fun _ => ⟨rfl, rfl⟩, .inl rfl⟩, ⟨rfl, ?_, fun e => (by cases e), .inr ⟨w.heap.size + 1, 0, rfl, fun i hi => ?_⟩⟩⟩⟩
    · intro s hs
      simp [haltI] at hs
      subst hs
      exact ⟨(by decide : (1 : Nat) ≤ maxLen), (by decide : (Lit.int .i64 3).wf = true), HK.out⟩
    · obtain rfl : i = 0 := by omega
      exact ⟨far _ _ _ _ _ (far _ _ _ _ _ (far _ _ _ _ _ u0)), far _ _ _ _ _ (far _ _ _ _ _ (far _ _ _ _ _ u1)), far _ _ _ _ _ (far _ _ _ _ _ (far _ _ _ _ _ u2))⟩
  clear b1 z0 far
  go_enter Tryd.func12, Tryd.ntmps12
  go_wp2_with fail
  refine bodyPost_ret (v := .agg #[.string { data := #[32] }, .slice none 0 0, .slice (some ⟨w.heap.size + 1, 0, none⟩) 1 1]) (by simp [results, Tryd.results12, go_sem, v0, v1, v2]) rfl ?_
  exact ⟨rfl, HIV.out, HB2.out⟩

theorem small_any {w : World} {v : Value} {m : ImgD} (h : ImgV w v m) : Calls Tryd.prog 4 #[v] w fun e w' => e = .returned (.bool (decide (m.syms.length ≤ 200 ∧ m.code.size ≤ 4000))) ∧ Below w.heap.size w w' := by
  obtain ⟨a1, l1, c1, a2, l2, c2, rfl, hs, h1, h2⟩ := h.form
  have hc := h2.count
  rw [hc]
  obtain ⟨code, hcode⟩ : ∃ code, m.code = code := ⟨_, rfl⟩
  rw [hcode]
  have hb : Below w.heap.size w (w.alloc (.cells #[.string code, .slice a1 l1 c1, .slice a2 l2 c2] 25)) := bl_one _ _
  clear h h1 h2 hs hc hcode
  rcases (show ¬ l2 ≤ 200 ∨ (l2 ≤ 200 ∧ ¬ code.size ≤ 4000) ∨ (l2 ≤ 200 ∧ code.size ≤ 4000) by omega) with g | ⟨g, g'⟩ | ⟨g, g'⟩
  · have HE : Hid (decide (l2 ≤ 200 ∧ code.size ≤ 4000) = false) := decide_eq_false (fun h => g h.1)
    generalize decide (l2 ≤ 200 ∧ code.size ≤ 4000) = R at HE ⊢
    have k1 : ¬ (l2 : Int) ≤ 200 := by omega
    go_enter Tryd.func4, Tryd.ntmps4
    go_wp2
    go_ret
    exact ⟨by rw [HE.out]; rfl, hb⟩
  · have HE : Hid (decide (l2 ≤ 200 ∧ code.size ≤ 4000) = false) := decide_eq_false (fun h => g' h.2)
    generalize decide (l2 ≤ 200 ∧ code.size ≤ 4000) = R at HE ⊢
    have k1 : (l2 : Int) ≤ 200 := by omega
    have k2 : ¬ (code.size : Int) ≤ 4000 := by omega
    go_enter Tryd.func4, Tryd.ntmps4
    go_wp2
    go_ret
    exact ⟨by rw [HE.out]; rfl, hb⟩
  · have HE : Hid (decide (l2 ≤ 200 ∧ code.size ≤ 4000) = true) := decide_eq_true ⟨g, g'⟩
    generalize decide (l2 ≤ 200 ∧ code.size ≤ 4000) = R at HE ⊢
    have k1 : (l2 : Int) ≤ 200 := by omega
    have k2 : (code.size : Int) ≤ 4000 := by omega
    go_enter Tryd.func4, Tryd.ntmps4
    go_wp2
    go_ret
    exact ⟨by rw [HE.out]; rfl, hb⟩

set_option maxHeartbeats 8000000 in
theorem live_any (w : World) (ht : Tab w) : Calls Tryd.prog 6 #[] w fun e w' => e = .returned (.bool true) ∧ Below w.heap.size w w' := by
  have HT : Hid _ := ht
  clear ht
  go_enter Tryd.func6, Tryd.ntmps6
  go_wp2_with fail
  refine (halt_any 0 (by decide) _).mono ?_
  rintro e y0 ⟨rfl, hv0, g0⟩
  have HV0 : Hid _ := hv0
  have B0 : Hid (Below w.heap.size w y0) := g0
  have HIN : Hid _ := hv0.isin may_halt0
  clear hv0 g0
  go_wp2_with fail
  refine (iwrite_any HV0.out (Tab.below HT.out B0.out)).mono ?_
  rintro e y1 ⟨rfl, g1⟩
  rw [may_halt0, if_pos rfl, if_pos rfl, form_halt]
  have B1 : Hid (Below w.heap.size w y1) := B0.out.trans (g1.mono B0.out.size)
  clear g1
  go_wp2_with fail
  refine (iread_img _ (by decide) _ (Tab.below HT.out B1.out)).mono ?_
  rintro e y2 ⟨hcase, g2⟩
  have B2 : Hid (Below w.heap.size w y2) := B1.out.trans (g2.mono B1.out.size)
  have hrd : rdImg { data := #[73, 77, 71, 49, 1, 32, 0, 1, 1, 116, 3, 0] } = some (haltI 0) := by rw [← form_halt]; exact rd_wrI HIN.out may_halt0
  obtain ⟨a1, l1, c1, a2, l2, c2, rfl, hRV⟩ : ∃ a1 l1 c1 a2 l2 c2, e = .returned (.tuple #[.agg #[.string { data := #[32] }, .slice a1 l1 c1, .slice a2 l2 c2], .int .i64 0]) ∧ ImgV y2 (.agg #[.string { data := #[32] }, .slice a1 l1 c1, .slice a2 l2 c2]) (haltI 0) := by
    rcases hcase with ⟨m, hm, a1, l1, c1, a2, l2, c2, he, hv⟩ | ⟨hm, -⟩
    · rw [hrd] at hm
      injection hm with hm
      subst hm
      exact ⟨a1, l1, c1, a2, l2, c2, he, hv⟩
    · rw [hrd] at hm; cases hm
  have HRV0 : Hid _ := hRV
  clear hcase g2 hrd hRV
  obtain ⟨Y3, hY3⟩ : ∃ Y3, y2.alloc (.cells #[.string { data := #[32] }, .slice a1 l1 c1, .slice a2 l2 c2] 25) = Y3 := ⟨_, rfl⟩
  have b3 : Below y2.heap.size y2 Y3 := by subst hY3; exact bl_one _ _
  have v0 : Y3.cell? ⟨y2.heap.size, 0, none⟩ = some (.string { data := #[32] }) := by subst hY3; exact cell_last rfl rfl
  have v1 : Y3.cell? ⟨y2.heap.size, 1, none⟩ = some (.slice a1 l1 c1) := by subst hY3; exact cell_last rfl rfl
  have v2 : Y3.cell? ⟨y2.heap.size, 2, none⟩ = some (.slice a2 l2 c2) := by subst hY3; exact cell_last rfl rfl
  have HRV3 : Hid _ := HRV0.out.below b3
  have B3 : Hid (Below w.heap.size w Y3) := B2.out.trans (b3.mono B2.out.size)
  clear b3
  go_wp2_with fail
  refine (halt_any 0 (by decide) _).mono ?_
  rintro e z1 ⟨rfl, hv1, g1⟩
  have HVZ : Hid _ := hv1
  have BZ : Hid (Below w.heap.size w z1) := B3.out.trans (g1.mono B3.out.size)
  have HRVZ : Hid _ := HRV3.out.below g1
  have p0 := cell_thru g1 v0
  have p1 := cell_thru g1 v1
  have p2 := cell_thru g1 v2
  clear hv1 g1 v0 v1 v2
  go_wp2_with fail
  refine (threads_any HVZ.out (by decide)).mono ?_
  rintro e z2 ⟨⟨tv, rfl, ho⟩, g2⟩
  have B4 : Hid (Below w.heap.size w z2) := BZ.out.trans (g2.mono BZ.out.size)
  have HRV : Hid _ := HRVZ.out.below g2
  have q0 := cell_thru g2.drew p0
  have q1 := cell_thru g2.drew p1
  have q2 := cell_thru g2.drew p2
  rw [thr_halt] at ho
  obtain ⟨tb, tc, htv, hcl⟩ : ∃ tb tc, tv = .slice (some ⟨tb, 0, none⟩) 1 tc ∧ z2.cell? ⟨tb, 0, none⟩ = some (.string { data := #[116] }) := by
    rcases ho.2 with ⟨-, h0⟩ | ⟨g, cap, cur, rfl, -⟩
    · simp at h0
    · exact ⟨g, cap, rfl, by
        have := World.ownsRow.cellAt ho 0 (by decide)
        rw [this]; rfl⟩
  subst htv
  obtain ⟨toff, htoff⟩ : ∃ toff : Nat, toff = 0 := ⟨0, rfl⟩
  have q3 : z2.drew.cell? ⟨tb, 0, none⟩ = some (.string { data := #[116] }) := hcl
  clear ho g2 p0 p1 p2 hcl htoff toff
  go_wp2_with fail
  refine wp_region_held_drew (S := (fun w' : World => w'.cell? ⟨y2.heap.size, 0, none⟩ = some (.string { data := #[32] }) ∧ w'.cell? ⟨y2.heap.size, 1, none⟩ = some (.slice a1 l1 c1) ∧ w'.cell? ⟨y2.heap.size, 2, none⟩ = some (.slice a2 l2 c2) ∧ w'.cell? ⟨tb, 0, none⟩ = some (.string { data := #[116] }))) (by kernel_rfl) ⟨q0, q1, q2, q3⟩ (fun hHeld => ?_)
  refine wpAnyH_take (i := 0) (v := ?_) (get0 _ _) (by kernel_rfl) (by kernel_rfl) (by kernel_rfl) (fun _ _ _ h => h) (Or.inl ⟨by rfl, ?_⟩) (by assumption) ?_
  rotate_left
  · (intro w hSw; (try dsimp only at hSw); go_simp <;> with_reducible rfl)
  simp only [Act.put, List.setIfInBounds_toArray, List.set_cons_zero, List.set_cons_succ]
  refine wpAnyH_take (i := 1) (v := ?_) (get1 (get0 _ _)) (by kernel_rfl) (by kernel_rfl) (by kernel_rfl) (fun _ _ _ h => h) (Or.inl ⟨by rfl, ?_⟩) (by assumption) ?_
  rotate_left
  · (intro w hSw; (try dsimp only at hSw); go_simp <;> with_reducible rfl)
  simp only [Act.put, List.setIfInBounds_toArray, List.set_cons_zero, List.set_cons_succ]
  refine wpAnyH_take (i := 2) (v := ?_) (get1 (get1 (get0 _ _))) (by kernel_rfl) (by kernel_rfl) (by kernel_rfl) (fun _ _ _ h => h) (Or.inl ⟨by rfl, ?_⟩) (by assumption) ?_
  rotate_left
  · (intro w hSw; (try dsimp only at hSw); go_simp <;> with_reducible rfl)
  simp only [Act.put, List.setIfInBounds_toArray, List.set_cons_zero, List.set_cons_succ]
  refine wpAnyH_take (i := 3) (v := ?_) (get1 (get1 (get1 (get0 _ _)))) (by kernel_rfl) (by kernel_rfl) (by kernel_rfl) (fun _ _ _ h => h) (Or.inl ⟨by rfl, ?_⟩) (by assumption) ?_
  rotate_left
  · (intro w hSw; (try dsimp only at hSw); go_simp <;> with_reducible rfl)
  simp only [Act.put, List.setIfInBounds_toArray, List.set_cons_zero, List.set_cons_succ]
  refine wpAnyH_take (i := 4) (v := ?_) (get1 (get1 (get1 (get1 (get0 _ _))))) (by kernel_rfl) (by kernel_rfl) (by kernel_rfl) (fun _ _ _ h => h) (Or.inl ⟨by rfl, ?_⟩) (by assumption) ?_
  rotate_left
  · (intro w hSw; (try dsimp only at hSw); go_simp <;> with_reducible rfl)
  simp only [Act.put, List.setIfInBounds_toArray, List.set_cons_zero, List.set_cons_succ]
  refine wpAnyH_take (i := 5) (v := ?_) (get1 (get1 (get1 (get1 (get1 (get0 _ _)))))) (by kernel_rfl) (by kernel_rfl) (by kernel_rfl) (fun _ _ _ h => h) (Or.inl ⟨by rfl, ?_⟩) (by assumption) ?_
  rotate_left
  · (intro w hSw; (try dsimp only at hSw); go_simp <;> with_reducible rfl)
  simp only [Act.put, List.setIfInBounds_toArray, List.set_cons_zero, List.set_cons_succ]
  refine wpAnyH_take (i := 6) (v := ?_) (get1 (get1 (get1 (get1 (get1 (get1 (get0 _ _))))))) (by kernel_rfl) (by kernel_rfl) (by kernel_rfl) (fun _ _ _ h => h) (Or.inl ⟨by rfl, ?_⟩) (by assumption) ?_
  rotate_left
  · (intro w hSw; (try dsimp only at hSw); go_simp <;> with_reducible rfl)
  simp only [Act.put, List.setIfInBounds_toArray, List.set_cons_zero, List.set_cons_succ]
  refine wpAnyH_take (i := 7) (v := ?_) (get1 (get1 (get1 (get1 (get1 (get1 (get1 (get0 _ _)))))))) (by kernel_rfl) (by kernel_rfl) (by kernel_rfl) (fun _ _ _ h => h) (Or.inl ⟨by rfl, ?_⟩) (by assumption) ?_
  rotate_left
  · (intro w hSw; (try dsimp only at hSw); go_simp <;> with_reducible rfl)
  simp only [Act.put, List.setIfInBounds_toArray, List.set_cons_zero, List.set_cons_succ]
  refine wpAnyH_take (i := 8) (v := ?_) (get1 (get1 (get1 (get1 (get1 (get1 (get1 (get1 (get0 _ _))))))))) (by kernel_rfl) (by kernel_rfl) (by kernel_rfl) (fun _ _ _ h => h) (Or.inl ⟨by rfl, ?_⟩) (by assumption) ?_
  rotate_left
  · (intro w hSw; (try dsimp only at hSw); go_simp <;> with_reducible rfl)
  simp only [Act.put, List.setIfInBounds_toArray, List.set_cons_zero, List.set_cons_succ]
  refine wpAnyH_take (i := 9) (v := ?_) (get1 (get1 (get1 (get1 (get1 (get1 (get1 (get1 (get1 (get0 _ _)))))))))) (by kernel_rfl) (by kernel_rfl) (by kernel_rfl) (fun _ _ _ h => h) (Or.inl ⟨by rfl, ?_⟩) (by assumption) ?_
  rotate_left
  · (intro w hSw; (try dsimp only at hSw); go_simp <;> with_reducible rfl)
  simp only [Act.put, List.setIfInBounds_toArray, List.set_cons_zero, List.set_cons_succ]
  refine wpAnyH_take (i := 10) (v := ?_) (get1 (get1 (get1 (get1 (get1 (get1 (get1 (get1 (get1 (get1 (get0 _ _))))))))))) (by kernel_rfl) (by kernel_rfl) (by kernel_rfl) (fun _ _ _ h => h) (Or.inl ⟨by rfl, ?_⟩) (by assumption) ?_
  rotate_left
  · (intro w hSw; (try dsimp only at hSw); go_simp <;> with_reducible rfl)
  simp only [Act.put, List.setIfInBounds_toArray, List.set_cons_zero, List.set_cons_succ]
  refine wpAnyH_take (i := 11) (v := ?_) (get1 (get1 (get1 (get1 (get1 (get1 (get1 (get1 (get1 (get1 (get1 (get0 _ _)))))))))))) (by kernel_rfl) (by kernel_rfl) (by kernel_rfl) (fun _ _ _ h => h) (Or.inl ⟨by rfl, ?_⟩) (by assumption) ?_
  rotate_left
  · (intro w hSw; (try dsimp only at hSw); go_simp <;> with_reducible rfl)
  simp only [Act.put, List.setIfInBounds_toArray, List.set_cons_zero, List.set_cons_succ]
  refine wpAnyH_ready (rs := [12]) (by kernel_rfl) (by simp) ?_
  refine AllReadyH.cons (get1 (get1 (get1 (get1 (get1 (get1 (get1 (get1 (get1 (get1 (get1 (get1 (get0 _ _))))))))))))) (fun K hK => ?_) AllReadyH.nil
  go_simp
  refine (halt_any 0 (by decide) _).mono ?_
  rintro e x1 ⟨rfl, hv1, g1⟩
  have sy : x1.cell? ⟨y2.heap.size, 0, none⟩ = some (.string { data := #[32] }) ∧ x1.cell? ⟨y2.heap.size, 1, none⟩ = some (.slice a1 l1 c1) ∧ x1.cell? ⟨y2.heap.size, 2, none⟩ = some (.slice a2 l2 c2) ∧ x1.cell? ⟨tb, 0, none⟩ = some (.string { data := #[116] }) := ⟨cell_thru g1 hHeld.1, cell_thru g1 hHeld.2.1, cell_thru g1 hHeld.2.2.1, cell_thru g1 hHeld.2.2.2⟩
  have HI1 : Hid _ := hv1
  have HR1 : Hid _ := HRV.out.drewI.below g1
  have C1 : Hid (Below w.heap.size w x1) := B4.out.drew.trans (g1.mono B4.out.size)
  clear hHeld hv1 g1
  try go_wp2_with fail
  refine hK.out _ _ sy (fun hHeld => ?_)
  clear hK K
  try simp only [Act.put, List.setIfInBounds_toArray, List.set_cons_zero, List.set_cons_succ]
  refine wpAnyH_ready (rs := [13]) (by kernel_rfl) (by simp) ?_
  refine AllReadyH.cons (get1 (get1 (get1 (get1 (get1 (get1 (get1 (get1 (get1 (get1 (get1 (get1 (get1 (get0 _ _)))))))))))))) (fun K hK => ?_) AllReadyH.nil
  go_simp
  refine (isame_any HR1.out HI1.out (by decide) (by decide) true (by simp)).mono ?_
  rintro e x2 ⟨rfl, g2⟩
  have sy : x2.cell? ⟨y2.heap.size, 0, none⟩ = some (.string { data := #[32] }) ∧ x2.cell? ⟨y2.heap.size, 1, none⟩ = some (.slice a1 l1 c1) ∧ x2.cell? ⟨y2.heap.size, 2, none⟩ = some (.slice a2 l2 c2) ∧ x2.cell? ⟨tb, 0, none⟩ = some (.string { data := #[116] }) := ⟨cell_thru g2 hHeld.1, cell_thru g2 hHeld.2.1, cell_thru g2 hHeld.2.2.1, cell_thru g2 hHeld.2.2.2⟩
  have C2 : Hid (Below w.heap.size w x2) := C1.out.trans (g2.mono C1.out.size)
  clear hHeld g2
  try go_wp2_with fail
  refine hK.out _ _ sy (fun hHeld => ?_)
  clear hK K
  try simp only [Act.put, List.setIfInBounds_toArray, List.set_cons_zero, List.set_cons_succ]
  refine wpAnyH_take (i := 14) (v := ?_) (get1 (get1 (get1 (get1 (get1 (get1 (get1 (get1 (get1 (get1 (get1 (get1 (get1 (get1 (get0 _ _))))))))))))))) (by kernel_rfl) (by kernel_rfl) (by kernel_rfl) (fun _ _ _ h => h) (Or.inl ⟨by rfl, ?_⟩) (by assumption) ?_
  rotate_left
  · (intro w hSw; (try dsimp only at hSw); go_simp <;> with_reducible rfl)
  simp only [Act.put, List.setIfInBounds_toArray, List.set_cons_zero, List.set_cons_succ]
  refine wpAnyH_take (i := 15) (v := ?_) (get1 (get1 (get1 (get1 (get1 (get1 (get1 (get1 (get1 (get1 (get1 (get1 (get1 (get1 (get1 (get0 _ _)))))))))))))))) (by kernel_rfl) (by kernel_rfl) (by kernel_rfl) (fun _ _ _ h => h) (Or.inl ⟨by rfl, ?_⟩) (by assumption) ?_
  rotate_left
  · (intro w hSw; (try dsimp only at hSw); go_simp <;> with_reducible rfl)
  simp only [Act.put, List.setIfInBounds_toArray, List.set_cons_zero, List.set_cons_succ]
  refine wpAnyH_ready (rs := [16]) (by kernel_rfl) (by simp) ?_
  refine AllReadyH.cons (get1 (get1 (get1 (get1 (get1 (get1 (get1 (get1 (get1 (get1 (get1 (get1 (get1 (get1 (get1 (get1 (get0 _ _))))))))))))))))) (fun K hK => ?_) AllReadyH.nil
  go_simp
  refine (halt_any 1 (by decide) _).mono ?_
  rintro e x3 ⟨rfl, hv3, g3⟩
  have sy : x3.cell? ⟨y2.heap.size, 0, none⟩ = some (.string { data := #[32] }) ∧ x3.cell? ⟨y2.heap.size, 1, none⟩ = some (.slice a1 l1 c1) ∧ x3.cell? ⟨y2.heap.size, 2, none⟩ = some (.slice a2 l2 c2) ∧ x3.cell? ⟨tb, 0, none⟩ = some (.string { data := #[116] }) := ⟨cell_thru g3 hHeld.1, cell_thru g3 hHeld.2.1, cell_thru g3 hHeld.2.2.1, cell_thru g3 hHeld.2.2.2⟩
  have HI3 : Hid _ := hv3
  have C3 : Hid (Below w.heap.size w x3) := C2.out.trans (g3.mono C2.out.size)
  clear hHeld hv3 g3
  try go_wp2_with fail
  refine hK.out _ _ sy (fun hHeld => ?_)
  clear hK K
  try simp only [Act.put, List.setIfInBounds_toArray, List.set_cons_zero, List.set_cons_succ]
  refine wpAnyH_ready (rs := [17]) (by kernel_rfl) (by simp) ?_
  refine AllReadyH.cons (get1 (get1 (get1 (get1 (get1 (get1 (get1 (get1 (get1 (get1 (get1 (get1 (get1 (get1 (get1 (get1 (get1 (get0 _ _)))))))))))))))))) (fun K hK => ?_) AllReadyH.nil
  go_simp
  refine (icheck_any HI3.out (Tab.below HT.out C3.out)).mono ?_
  rintro e x4 ⟨rfl, g4⟩
  rw [may_halt1, if_neg (by decide)]
  have sy : x4.cell? ⟨y2.heap.size, 0, none⟩ = some (.string { data := #[32] }) ∧ x4.cell? ⟨y2.heap.size, 1, none⟩ = some (.slice a1 l1 c1) ∧ x4.cell? ⟨y2.heap.size, 2, none⟩ = some (.slice a2 l2 c2) ∧ x4.cell? ⟨tb, 0, none⟩ = some (.string { data := #[116] }) := ⟨cell_thru g4 hHeld.1, cell_thru g4 hHeld.2.1, cell_thru g4 hHeld.2.2.1, cell_thru g4 hHeld.2.2.2⟩
  have C4 : Hid (Below w.heap.size w x4) := C3.out.trans (g4.mono C3.out.size)
  clear hHeld g4
  try go_wp2_with fail
  refine hK.out _ _ sy (fun hHeld => ?_)
  clear hK K
  try simp only [Act.put, List.setIfInBounds_toArray, List.set_cons_zero, List.set_cons_succ]
  refine wpAnyH_take (i := 18) (v := ?_) (get1 (get1 (get1 (get1 (get1 (get1 (get1 (get1 (get1 (get1 (get1 (get1 (get1 (get1 (get1 (get1 (get1 (get1 (get0 _ _))))))))))))))))))) (by kernel_rfl) (by kernel_rfl) (by kernel_rfl) (fun _ _ _ h => h) (Or.inl ⟨by rfl, ?_⟩) (by assumption) ?_
  rotate_left
  · (intro w hSw; (try dsimp only at hSw); go_simp <;> with_reducible rfl)
  simp only [Act.put, List.setIfInBounds_toArray, List.set_cons_zero, List.set_cons_succ]
  refine wpAnyH_take (i := 19) (v := ?_) (get1 (get1 (get1 (get1 (get1 (get1 (get1 (get1 (get1 (get1 (get1 (get1 (get1 (get1 (get1 (get1 (get1 (get1 (get1 (get0 _ _)))))))))))))))))))) (by kernel_rfl) (by kernel_rfl) (by kernel_rfl) (fun _ _ _ h => h) (Or.inl ⟨by rfl, ?_⟩) (by assumption) ?_
  rotate_left
  · (intro w hSw; (try dsimp only at hSw); go_simp <;> with_reducible rfl)
  simp only [Act.put, List.setIfInBounds_toArray, List.set_cons_zero, List.set_cons_succ]
  refine wpAnyH_take (i := 20) (v := ?_) (get1 (get1 (get1 (get1 (get1 (get1 (get1 (get1 (get1 (get1 (get1 (get1 (get1 (get1 (get1 (get1 (get1 (get1 (get1 (get1 (get0 _ _))))))))))))))))))))) (by kernel_rfl) (by kernel_rfl) (by kernel_rfl) (fun _ _ _ h => h) (Or.inl ⟨by rfl, ?_⟩) (by assumption) ?_
  rotate_left
  · (intro w hSw; (try dsimp only at hSw); go_simp <;> with_reducible rfl)
  simp only [Act.put, List.setIfInBounds_toArray, List.set_cons_zero, List.set_cons_succ]
  refine wpAnyH_take (i := 21) (v := ?_) (get1 (get1 (get1 (get1 (get1 (get1 (get1 (get1 (get1 (get1 (get1 (get1 (get1 (get1 (get1 (get1 (get1 (get1 (get1 (get1 (get1 (get0 _ _)))))))))))))))))))))) (by kernel_rfl) (by kernel_rfl) (by kernel_rfl) (fun _ _ _ h => h) (Or.inl ⟨by rfl, ?_⟩) (by assumption) ?_
  rotate_left
  · (intro w hSw; (try dsimp only at hSw); go_simp <;> with_reducible rfl)
  simp only [Act.put, List.setIfInBounds_toArray, List.set_cons_zero, List.set_cons_succ]
  refine wpAnyH_take (i := 22) (v := ?_) (get1 (get1 (get1 (get1 (get1 (get1 (get1 (get1 (get1 (get1 (get1 (get1 (get1 (get1 (get1 (get1 (get1 (get1 (get1 (get1 (get1 (get1 (get0 _ _))))))))))))))))))))))) (by kernel_rfl) (by kernel_rfl) (by kernel_rfl) (fun _ _ _ h => h) (Or.inl ⟨by rfl, ?_⟩) (by assumption) ?_
  rotate_left
  · (intro w hSw; (try dsimp only at hSw); go_simp <;> with_reducible rfl)
  simp only [Act.put, List.setIfInBounds_toArray, List.set_cons_zero, List.set_cons_succ]
  refine wpAnyH_take (i := 23) (v := ?_) (get1 (get1 (get1 (get1 (get1 (get1 (get1 (get1 (get1 (get1 (get1 (get1 (get1 (get1 (get1 (get1 (get1 (get1 (get1 (get1 (get1 (get1 (get1 (get0 _ _)))))))))))))))))))))))) (by kernel_rfl) (by kernel_rfl) (by kernel_rfl) (fun _ _ _ h => h) (Or.inl ⟨by rfl, ?_⟩) (by assumption) ?_
  rotate_left
  · (intro w hSw; (try dsimp only at hSw); go_simp <;> with_reducible rfl)
  simp only [Act.put, List.setIfInBounds_toArray, List.set_cons_zero, List.set_cons_succ]
  refine wpAnyH_take (i := 24) (v := ?_) (get1 (get1 (get1 (get1 (get1 (get1 (get1 (get1 (get1 (get1 (get1 (get1 (get1 (get1 (get1 (get1 (get1 (get1 (get1 (get1 (get1 (get1 (get1 (get1 (get0 _ _))))))))))))))))))))))))) (by kernel_rfl) (by kernel_rfl) (by kernel_rfl) (fun _ _ _ h => h) (Or.inl ⟨by rfl, ?_⟩) (by assumption) ?_
  rotate_left
  · (intro w hSw; (try dsimp only at hSw); go_simp <;> with_reducible rfl)
  simp only [Act.put, List.setIfInBounds_toArray, List.set_cons_zero, List.set_cons_succ]
  refine wpAnyH_take (i := 25) (v := ?_) (get1 (get1 (get1 (get1 (get1 (get1 (get1 (get1 (get1 (get1 (get1 (get1 (get1 (get1 (get1 (get1 (get1 (get1 (get1 (get1 (get1 (get1 (get1 (get1 (get1 (get0 _ _)))))))))))))))))))))))))) (by kernel_rfl) (by kernel_rfl) (by kernel_rfl) (fun _ _ _ h => h) (Or.inl ⟨by rfl, ?_⟩) (by assumption) ?_
  rotate_left
  · (intro w hSw; (try dsimp only at hSw); go_simp <;> with_reducible rfl)
  simp only [Act.put, List.setIfInBounds_toArray, List.set_cons_zero, List.set_cons_succ]
  refine wpAnyH_take (i := 26) (v := ?_) (get1 (get1 (get1 (get1 (get1 (get1 (get1 (get1 (get1 (get1 (get1 (get1 (get1 (get1 (get1 (get1 (get1 (get1 (get1 (get1 (get1 (get1 (get1 (get1 (get1 (get1 (get0 _ _))))))))))))))))))))))))))) (by kernel_rfl) (by kernel_rfl) (by kernel_rfl) (fun _ _ _ h => h) (Or.inl ⟨by rfl, ?_⟩) (by assumption) ?_
  rotate_left
  · (intro w hSw; (try dsimp only at hSw); go_simp <;> with_reducible rfl)
  simp only [Act.put, List.setIfInBounds_toArray, List.set_cons_zero, List.set_cons_succ]
  refine wpAnyH_take (i := 27) (v := ?_) (get1 (get1 (get1 (get1 (get1 (get1 (get1 (get1 (get1 (get1 (get1 (get1 (get1 (get1 (get1 (get1 (get1 (get1 (get1 (get1 (get1 (get1 (get1 (get1 (get1 (get1 (get1 (get0 _ _)))))))))))))))))))))))))))) (by kernel_rfl) (by kernel_rfl) (by kernel_rfl) (fun _ _ _ h => h) (Or.inl ⟨by rfl, ?_⟩) (by assumption) ?_
  rotate_left
  · (intro w hSw; (try dsimp only at hSw); go_simp <;> with_reducible rfl)
  simp only [Act.put, List.setIfInBounds_toArray, List.set_cons_zero, List.set_cons_succ]
  refine wpAnyH_take (i := 28) (v := ?_) (get1 (get1 (get1 (get1 (get1 (get1 (get1 (get1 (get1 (get1 (get1 (get1 (get1 (get1 (get1 (get1 (get1 (get1 (get1 (get1 (get1 (get1 (get1 (get1 (get1 (get1 (get1 (get1 (get0 _ _))))))))))))))))))))))))))))) (by kernel_rfl) (by kernel_rfl) (by kernel_rfl) (fun _ _ _ h => h) (Or.inl ⟨by rfl, ?_⟩) (by assumption) ?_
  rotate_left
  · (intro w hSw; (try dsimp only at hSw); go_simp <;> with_reducible rfl)
  simp only [Act.put, List.setIfInBounds_toArray, List.set_cons_zero, List.set_cons_succ]
  refine wpAnyH_take (i := 29) (v := ?_) (get1 (get1 (get1 (get1 (get1 (get1 (get1 (get1 (get1 (get1 (get1 (get1 (get1 (get1 (get1 (get1 (get1 (get1 (get1 (get1 (get1 (get1 (get1 (get1 (get1 (get1 (get1 (get1 (get1 (get0 _ _)))))))))))))))))))))))))))))) (by kernel_rfl) (by kernel_rfl) (by kernel_rfl) (fun _ _ _ h => h) (Or.inl ⟨by rfl, ?_⟩) (by assumption) ?_
  rotate_left
  · (intro w hSw; (try dsimp only at hSw); go_simp <;> with_reducible rfl)
  simp only [Act.put, List.setIfInBounds_toArray, List.set_cons_zero, List.set_cons_succ]
  refine wpAnyH_take (i := 30) (v := ?_) (get1 (get1 (get1 (get1 (get1 (get1 (get1 (get1 (get1 (get1 (get1 (get1 (get1 (get1 (get1 (get1 (get1 (get1 (get1 (get1 (get1 (get1 (get1 (get1 (get1 (get1 (get1 (get1 (get1 (get1 (get0 _ _))))))))))))))))))))))))))))))) (by kernel_rfl) (by kernel_rfl) (by kernel_rfl) (fun _ _ _ h => h) (Or.inl ⟨by rfl, ?_⟩) (by assumption) ?_
  rotate_left
  · (intro w hSw; (try dsimp only at hSw); go_simp <;> with_reducible rfl)
  simp only [Act.put, List.setIfInBounds_toArray, List.set_cons_zero, List.set_cons_succ]
  refine wpAnyH_take (i := 31) (v := ?_) (get1 (get1 (get1 (get1 (get1 (get1 (get1 (get1 (get1 (get1 (get1 (get1 (get1 (get1 (get1 (get1 (get1 (get1 (get1 (get1 (get1 (get1 (get1 (get1 (get1 (get1 (get1 (get1 (get1 (get1 (get1 (get0 _ _)))))))))))))))))))))))))))))))) (by kernel_rfl) (by kernel_rfl) (by kernel_rfl) (fun _ _ _ h => h) (Or.inl ⟨by rfl, ?_⟩) (by assumption) ?_
  rotate_left
  · (intro w hSw; (try dsimp only at hSw); go_simp <;> with_reducible rfl)
  simp only [Act.put, List.setIfInBounds_toArray, List.set_cons_zero, List.set_cons_succ]
  refine wpAnyH_done (by kernel_rfl) ?_ _
  clear hHeld sy
  go_wp2
  go_ret
  exact ⟨rfl, C4.out⟩
end Go.Proofs.YtffokdldgdjkhaaDoor
