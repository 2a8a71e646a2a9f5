/- What is written is read as it was, and what is read is as it would be written: no program in sight. -/
import Derived.Test.YtcfdfnghaigkjaaObjSymRead
import Derived.Test.YtcfdfnghaigkjaaObjWrite
import Derived.Test.YtcfdfnghaigkjaaWordBackMath
namespace Go.Proofs.Ytcfdfnghaigkjaa
open Go.RowKit Go.Maps Go.Lib
set_option linter.unusedVariables false

theorem tail_drop (s : ByteArray) (i m : Nat) : W.tail s (i + m) = (W.tail s i).drop m := by
  unfold W.tail
  rw [← List.map_drop, List.drop_drop]
theorem tail_step {s : ByteArray} {i : Nat} {e r : List Int} (hi : i ≤ s.size) (h : W.tail s i = e ++ r) : i + e.length ≤ s.size ∧ W.tail s (i + e.length) = r := by
  have h1 := W.tail_length s i
  rw [h, List.length_append] at h1
  exact ⟨by omega, by rw [tail_drop, h]; simp⟩
theorem nums_sub (s : ByteArray) (i n : Nat) : nums (sub s i n) = (W.tail s i).take n := by
  unfold nums W.tail sub
  rw [ByteArray.data_extract, Array.toList_extract, List.drop_zero, List.extract_eq_take_drop, ← List.map_take]
  congr 2
  omega
theorem bytes_nums {a b : ByteArray} (h : nums a = nums b) : a = b := by
  unfold nums W.tail at h
  rw [List.drop_zero, List.drop_zero] at h
  refine bytes_ext ?_
  have hinj : Function.Injective (fun b : UInt8 => (b.toNat : Int)) := fun x y e => by
    have e' : (x.toNat : Int) = (y.toNat : Int) := e
    exact UInt8.toNat_inj.1 (by omega)
  exact (List.map_inj_right (fun x y e => hinj e)).1 h
theorem str_nums (s : ByteArray) : strOfNums (nums s) = s := bytes_nums (nums_of (fun n hn => by have := W.tail_bd s 0 n hn; omega))
theorem nums_bd (s : ByteArray) : ∀ n ∈ nums s, 0 ≤ n ∧ n ≤ 255 := fun n hn => by have := W.tail_bd s 0 n hn; omega

/-- A reader reads nothing but what stands there. -/
def Sound {α : Type} (f : ByteArray → Nat → Option (α × Nat)) (enc : α → List Int) (ok : α → Prop) : Prop :=
  ∀ (s : ByteArray) (i : Nat) (a : α) (j : Nat), i ≤ s.size → f s i = some (a, j) → i ≤ j ∧ j ≤ s.size ∧ W.tail s i = enc a ++ W.tail s j ∧ ok a
/-- A reader reads what stands there. -/
def Compl {α : Type} (f : ByteArray → Nat → Option (α × Nat)) (enc : α → List Int) (ok : α → Prop) : Prop :=
  ∀ (s : ByteArray) (i : Nat) (a : α) (r : List Int), i ≤ s.size → ok a → W.tail s i = enc a ++ r → f s i = some (a, i + (enc a).length)

theorem take_sound (n : Nat) : Sound (fun s i => rdTake s i n) nums (fun a => a.size = n) := by
  intro s i a j hi h
  simp only [rdTake] at h
  split at h
  · next hle =>
    simp at h
    obtain ⟨rfl, rfl⟩ := h
    refine ⟨by omega, hle, ?_, sub_size hle⟩
    rw [nums_sub, tail_drop, List.take_append_drop]
  · cases h
theorem take_compl (n : Nat) : Compl (fun s i => rdTake s i n) nums (fun a => a.size = n) := by
  intro s i a r hi ha h
  have h1 := (tail_step hi h).1
  rw [nums_len, ha] at h1
  simp only [rdTake, if_pos h1, nums_len, ha]
  have : sub s i n = a := bytes_nums (by rw [nums_sub, h, ← ha, ← nums_len a]; simp)
  rw [this]

theorem takeG_inv : ∀ (l : List Int) (g : Nat) (x v : Int) (m : Nat), g ≤ 9 → (∀ c ∈ l, 0 ≤ c ∧ c < 256) → W.takeG g x l = some (v, m) →
    ∃ u, v = x + u * 128 ^ g ∧ g < m ∧ m - g ≤ l.length ∧ l.take (m - g) = W.grps (9 - g) u ∧ 0 ≤ u ∧ (0 < g → 0 < u)
  | [], g, x, v, m, _, _, h => by simp [W.takeG] at h
  | c :: r, g, x, v, m, hg, hc, h => by
    have hc0 := hc c (by simp)
    by_cases hb : (g = 9 ∧ 1 < c) ∨ (0 < g ∧ c = 0)
    · rw [W.takeG_no g x c r hb] at h; cases h
    · by_cases hl : c < 128
      · rw [W.takeG_last g x c r hb hl] at h
        simp at h
        obtain ⟨rfl, rfl⟩ := h
        refine ⟨c, by rw [show c % 128 = c by omega], by omega, by simp, ?_, hc0.1, fun h0 => by omega⟩
        rw [W.grps_last _ _ hl, show g + 1 - g = 1 by omega]
        simp
      · rw [W.takeG_more g x c r hb (by omega)] at h
        obtain ⟨u, hv, hm, hml, ht, hu0, hu1⟩ := takeG_inv r (g + 1) _ v m (by omega) (fun y hy => hc y (by simp [hy])) h
        have hup := hu1 (by omega)
        refine ⟨c % 128 + u * 128, ?_, by omega, by simp; omega, ?_, by omega, fun _ => by omega⟩
        · rw [hv, Int.add_mul, Int.pow_succ, Int.mul_assoc u 128, Int.mul_comm 128 (128 ^ g), Int.add_assoc]
        · obtain ⟨f, hf⟩ : ∃ f, 9 - g = f + 1 := ⟨8 - g, by omega⟩
          rw [hf, W.grps_step f _ (by omega)]
          obtain ⟨q, hq⟩ : ∃ q, m - g = q + 1 := ⟨m - g - 1, by omega⟩
          rw [hq, List.take_succ_cons]
          have e1 : (c % 128 + u * 128) % 128 + 128 = c := by omega
          have e2 : (c % 128 + u * 128) / 128 = u := by omega
          rw [e1, e2, show q = m - (g + 1) by omega, ht, show 9 - (g + 1) = f by omega]
theorem up_sound (n : Nat) : Sound (fun s i => rdUp s i n) W.put (fun x => 0 ≤ x ∧ x ≤ n) := by
  intro s i a j hi h
  have hr := rdUp_nonneg h
  simp only [rdUp] at h
  split at h
  · next x m hx =>
    split at h
    · next hle =>
      simp at h
      obtain ⟨rfl, rfl⟩ := h
      obtain ⟨u, hv, hm, hml, ht, hu0, -⟩ := takeG_inv _ 0 0 x m (by omega) (W.tail_bd s i) hx
      obtain rfl : x = u := by simpa using hv
      have hl := W.tail_length s i
      refine ⟨by omega, by omega, ?_, hr⟩
      rw [tail_drop]
      have : W.put x = (W.tail s i).take m := by simpa [W.put] using ht.symm
      rw [this, List.take_append_drop]
    · cases h
  · cases h
theorem up_compl (n : Nat) (hn : n ≤ 1000000000) : Compl (fun s i => rdUp s i n) W.put (fun x => 0 ≤ x ∧ x ≤ n) := by
  intro s i a r hi ha h
  simp only [rdUp, h, W.takeG_put a r ha.1 (by omega)]
  rw [if_pos ha.2]

theorem bytesOf_num : ∀ (l : List Int) (n : Int), (∀ c ∈ l, 0 ≤ c ∧ c < 256) → n % 256 ^ l.length = W.num l → W.bytesOf n l.length = l
  | [], n, _, _ => by simp [W.bytesOf]
  | c :: r, n, hc, h => by
    have hc0 := hc c (by simp)
    rw [List.length_cons, W.bytesOf_cons]
    simp only [List.length_cons, W.num] at h
    have hb := W.num_bd r (fun y hy => hc y (by simp [hy]))
    have hP : (0 : Int) < 256 ^ r.length := Int.pow_pos (by decide)
    have key : n % 256 = c ∧ n / 256 % 256 ^ r.length = W.num r := by
      have h2 : n % (256 * 256 ^ r.length) = n % 256 + 256 * (n / 256 % 256 ^ r.length) := by
        have h1 := Int.mul_ediv_add_emod (n / 256) (256 ^ r.length)
        have h2 := Int.emod_nonneg (n / 256) (Int.ne_of_gt hP)
        have h3 := Int.emod_lt_of_pos (n / 256) hP
        generalize n / 256 % 256 ^ r.length = t at *
        generalize n / 256 / 256 ^ r.length = q at *
        have h4 : n = (n % 256 + 256 * t) + 256 * 256 ^ r.length * q := by
          rw [Int.mul_assoc]; omega
        conv => lhs; rw [h4]
        rw [Int.add_mul_emod_self_left]
        exact Int.emod_eq_of_lt (by omega) (by omega)
      rw [Int.pow_succ, Int.mul_comm, h2] at h
      omega
    rw [key.1, bytesOf_num r (n / 256) (fun y hy => hc y (by simp [hy])) key.2]
theorem long_sub {t : ByteArray} (h : t.size = 8) : long (W.numV t) = nums t ∧ (Lit.int .i64 (W.numV t)).wf = true := by
  have s8 : W.isSz (8 : Nat) = true := by decide
  have hl : (nums t).length = 8 := by rw [nums_len, h]
  have hb := W.num_bd (nums t) (W.tail_bd t 0)
  rw [hl, show (256 : Int) ^ 8 = 18446744073709551616 by decide] at hb
  have hv : W.numV t = wrap64 (W.num (nums t)) := by
    rw [W.numV, h, if_pos s8]
    rfl
  have hw : (Lit.int .i64 (W.numV t)).wf = true := by
    rw [hv]
    simp [Lit.wf, IntKind.min, IntKind.max, IntKind.signed, IntKind.bits]
    unfold wrap64
    omega
  refine ⟨?_, hw⟩
  have e : W.sx 8 (W.numV t) = W.numV t := by rw [hv]; simp [W.sx]; unfold wrap64; omega
  have s8' : W.isSz 8 = true := by decide
  have e2 : long (W.numV t) = W.bytesOf (W.numV t) 8 := by unfold long; rw [W.bytesV, if_pos s8', if_pos e]; rfl
  rw [e2]
  have := bytesOf_num (nums t) (W.numV t) (W.tail_bd t 0) (by rw [hl, show (256 : Int) ^ 8 = 18446744073709551616 by decide, hv]; unfold wrap64; omega)
  rwa [hl] at this
theorem long_sound : Sound rdLong long (fun n => (Lit.int .i64 n).wf = true) := by
  intro s i a j hi h
  simp only [rdLong] at h
  split at h
  · next t k ht =>
    simp at h
    obtain ⟨rfl, rfl⟩ := h
    obtain ⟨h1, h2, h3, h4⟩ := take_sound 8 s i t k hi ht
    obtain ⟨h5, h6⟩ := long_sub h4
    exact ⟨h1, h2, by rw [h5]; exact h3, h6⟩
  · cases h
theorem long_compl : Compl rdLong long (fun n => (Lit.int .i64 n).wf = true) := by
  intro s i a r hi ha h
  obtain ⟨hl, hb⟩ := long_len ha
  have hn := nums_of hb
  have hs : (strOfNums (long a)).size = 8 := by rw [size_of hb, hl]
  have h1 := take_compl 8 s i (strOfNums (long a)) r hi hs (by rw [hn]; exact h)
  simp only [rdLong]
  rw [show rdTake s i 8 = _ from h1]
  simp only [hn]
  have := (W.num_back a ha).2.2
  rw [show W.numV (strOfNums (long a)) = a from this]

theorem kind_sound : Sound rdKind (fun x => [x]) (fun x => 0 ≤ x ∧ x ≤ 255) := by
  intro s i a j hi h
  simp only [rdKind] at h
  split at h
  · next t k ht =>
    simp at h
    obtain ⟨rfl, rfl⟩ := h
    obtain ⟨h1, h2, h3, h4⟩ := take_sound 1 s i t k hi ht
    have hl : (nums t).length = 1 := by rw [nums_len, h4]
    obtain ⟨y, hy⟩ := List.length_eq_one_iff.1 hl
    have hb := nums_bd t y (by rw [hy]; simp)
    rw [hy] at h3
    refine ⟨h1, h2, ?_, ?_⟩
    · simpa [hy] using h3
    · simpa [hy] using hb
  · cases h
theorem kind_compl : Compl rdKind (fun x => [x]) (fun x => 0 ≤ x ∧ x ≤ 255) := by
  intro s i a r hi ha h
  have hb : ∀ n ∈ [a], 0 ≤ n ∧ n ≤ 255 := by intro n hn; simp at hn; omega
  have hn := nums_of hb
  have hs : (strOfNums [a]).size = 1 := by rw [size_of hb]; rfl
  have h1 := take_compl 1 s i (strOfNums [a]) r hi hs (by rw [hn]; exact h)
  simp only [rdKind]
  rw [show rdTake s i 1 = _ from h1]
  simp [hn]

theorem name_sound : Sound rdName txt (fun a => a.size ≤ 28) := by
  intro s i a j hi h
  simp only [rdName] at h
  split at h
  · next x k hx =>
    obtain ⟨h1, h2, h3, h4⟩ := up_sound 28 s i x k hi hx
    obtain ⟨h5, h6, h7, h8⟩ := take_sound x.toNat s k a j h2 h
    have e : (a.size : Int) = x := by omega
    refine ⟨by omega, h6, ?_, by omega⟩
    rw [h3, h7, txt, e, List.append_assoc]
  · cases h
theorem name_compl : Compl rdName txt (fun a => a.size ≤ 28) := by
  intro s i a r hi ha h
  rw [txt, List.append_assoc] at h
  have h1 := up_compl 28 (by decide) s i a.size _ hi (by omega) h
  obtain ⟨h2, h3⟩ := tail_step hi h
  have h4 := take_compl a.size s _ a r h2 rfl h3
  simp only [rdName]
  rw [show rdUp s i 28 = _ from h1]
  simp only [Int.toNat_natCast]
  rw [show rdTake s (i + (W.put a.size).length) a.size = _ from h4]
  simp [txt]
  omega

def SymIn (x : Sym) : Prop := x.name.size ≤ 28 ∧ (0 ≤ x.kind ∧ x.kind ≤ 255) ∧ 0 ≤ x.pos ∧ x.pos ≤ 65536
def RelIn (x : Rel) : Prop := (0 ≤ x.pos ∧ x.pos ≤ 65536) ∧ (0 ≤ x.kind ∧ x.kind ≤ 255) ∧ x.name.size ≤ 28 ∧ (Lit.int .i64 x.add).wf = true
theorem sym_sound : Sound rdSym symB SymIn := by
  intro s i a j hi h
  simp only [rdSym] at h
  split at h
  · next nm k hx =>
    split at h
    · next kd l hy =>
      split at h
      · next ps m hz =>
        simp at h
        obtain ⟨rfl, rfl⟩ := h
        obtain ⟨a1, a2, a3, a4⟩ := name_sound s i nm k hi hx
        obtain ⟨b1, b2, b3, b4⟩ := kind_sound s k kd l a2 hy
        obtain ⟨c1, c2, c3, c4⟩ := up_sound 65536 s l ps m b2 hz
        refine ⟨by omega, c2, ?_, a4, b4, c4⟩
        rw [a3, b3, c3]
        simp [symB]
      · cases h
    · cases h
  · cases h
theorem sym_compl : Compl rdSym symB SymIn := by
  intro s i a r hi ⟨h1, h2, h3⟩ h
  rw [symB, List.append_assoc, List.append_assoc] at h
  have e1 := name_compl s i a.name _ hi h1 h
  obtain ⟨t1, u1⟩ := tail_step hi h
  have e2 := kind_compl s _ a.kind _ t1 h2 u1
  obtain ⟨t2, u2⟩ := tail_step t1 u1
  have e3 := up_compl 65536 (by decide) s _ a.pos r t2 h3 u2
  simp only [rdSym, e1, e2]
  rw [show rdUp s (i + (txt a.name).length + [a.kind].length) 65536 = _ from e3]
  simp [symB]
  omega
theorem rel_sound : Sound rdRel relB RelIn := by
  intro s i a j hi h
  simp only [rdRel] at h
  split at h
  · next ps k hx =>
    split at h
    · next kd l hy =>
      split at h
      · next nm m hz =>
        split at h
        · next ad n hv =>
          simp at h
          obtain ⟨rfl, rfl⟩ := h
          obtain ⟨a1, a2, a3, a4⟩ := up_sound 65536 s i ps k hi hx
          obtain ⟨b1, b2, b3, b4⟩ := kind_sound s k kd l a2 hy
          obtain ⟨c1, c2, c3, c4⟩ := name_sound s l nm m b2 hz
          obtain ⟨d1, d2, d3, d4⟩ := long_sound s m ad n c2 hv
          refine ⟨by omega, d2, ?_, a4, b4, c4, d4⟩
          rw [a3, b3, c3, d3]
          simp [relB]
        · cases h
      · cases h
    · cases h
  · cases h
theorem rel_compl : Compl rdRel relB RelIn := by
  intro s i a r hi ⟨h1, h2, h3, h4⟩ h
  rw [relB, List.append_assoc, List.append_assoc, List.append_assoc] at h
  have e1 := up_compl 65536 (by decide) s i a.pos _ hi h1 h
  obtain ⟨t1, u1⟩ := tail_step hi h
  have e2 := kind_compl s _ a.kind _ t1 h2 u1
  obtain ⟨t2, u2⟩ := tail_step t1 u1
  have e3 := name_compl s _ a.name _ t2 h3 u2
  obtain ⟨t3, u3⟩ := tail_step t2 u2
  have e4 := long_compl s _ a.add r t3 h4 u3
  simp only [rdRel]
  rw [show rdUp s i 65536 = _ from e1]
  simp only [e2, e3, e4]
  simp [relB]
  omega

/-- Several, one behind the other. -/
def rdMany {α : Type} (f : ByteArray → Nat → Option (α × Nat)) : Nat → ByteArray → Nat → Option (List α × Nat)
  | 0, _, i => some ([], i)
  | n + 1, s, i => match rdMany f n s i with
    | some (l, j) => match f s j with
      | some (x, k) => some (l ++ [x], k)
      | none => none
    | none => none
theorem many_none {α : Type} {f : ByteArray → Nat → Option (α × Nat)} {s : ByteArray} {i n : Nat} (h : rdMany f n s i = none) : ∀ m, rdMany f (n + m) s i = none
  | 0 => h
  | m + 1 => by rw [← Nat.add_assoc, rdMany, many_none h m]
theorem many_cut {α : Type} {f : ByteArray → Nat → Option (α × Nat)} {s : ByteArray} {i k n : Nat} {l : List α} {j : Nat} (h : rdMany f k s i = some (l, j)) (hk : k < n) (hf : f s j = none) : rdMany f n s i = none := by
  have h1 : rdMany f (k + 1) s i = none := by rw [rdMany, h]; simp only [hf]
  have := many_none h1 (n - (k + 1))
  rwa [show k + 1 + (n - (k + 1)) = n by omega] at this
theorem many_sound {α : Type} {f : ByteArray → Nat → Option (α × Nat)} {enc : α → List Int} {ok : α → Prop} (h : Sound f enc ok) : ∀ n, Sound (rdMany f n) (List.flatMap enc) (fun l => l.length = n ∧ ∀ x ∈ l, ok x)
  | 0 => by
    intro s i a j hi e
    simp [rdMany] at e
    obtain ⟨rfl, rfl⟩ := e
    simp [hi]
  | n + 1 => by
    intro s i a j hi e
    simp only [rdMany] at e
    split at e
    · next l k hl =>
      split at e
      · next x m hx =>
        simp at e
        obtain ⟨rfl, rfl⟩ := e
        obtain ⟨a1, a2, a3, a4, a5⟩ := many_sound h n s i l k hi hl
        obtain ⟨b1, b2, b3, b4⟩ := h s k x m a2 hx
        refine ⟨by omega, b2, ?_, by simp [a4], ?_⟩
        · rw [a3, b3]; simp [List.flatMap_append]
        · intro y hy
          rcases List.mem_append.1 hy with h1 | h1
          · exact a5 y h1
          · simp at h1; rw [h1]; exact b4
      · cases e
    · cases e
theorem many_compl {α : Type} {f : ByteArray → Nat → Option (α × Nat)} {enc : α → List Int} {ok : α → Prop} (h : Compl f enc ok) : ∀ n, Compl (rdMany f n) (List.flatMap enc) (fun l => l.length = n ∧ ∀ x ∈ l, ok x)
  | 0 => by
    intro s i a r hi ⟨h1, _⟩ _
    obtain rfl := List.length_eq_zero_iff.1 h1
    simp [rdMany]
  | n + 1 => by
    intro s i a r hi ⟨h1, h2⟩ e
    rcases List.eq_nil_or_concat a with rfl | ⟨l, x, rfl⟩
    · simp at h1
    · rw [List.concat_eq_append] at *
      simp only [List.flatMap_append, List.flatMap_cons, List.flatMap_nil, List.append_nil, List.append_assoc] at e
      have e1 := many_compl h n s i l _ hi ⟨by simpa using h1, fun y hy => h2 y (by simp [hy])⟩ e
      obtain ⟨t1, u1⟩ := tail_step hi e
      have e2 := h s _ x r t1 (h2 x (by simp)) u1
      simp only [rdMany, e1, e2]
      simp [List.flatMap_append]
      omega

/-- COT1. -/
def cot1 : ByteArray := ⟨#[67, 79, 84, 49]⟩
/-- What object reads of a text, ahead of its last look. -/
def rdBody (s : ByteArray) : Option (ObjD × Nat) := match rdTake s 0 4 with
  | some (t, i0) => if t = cot1 then match rdUp s i0 65536 with
    | some (n1, i1) => match rdTake s i1 n1.toNat with
      | some (code, i2) => match rdUp s i2 4096 with
        | some (n2, i3) => match rdMany rdLong n2.toNat s i3 with
          | some (data, i4) => match rdUp s i4 1000 with
            | some (n3, i5) => match rdMany rdSym n3.toNat s i5 with
              | some (syms, i6) => match rdUp s i6 8000 with
                | some (n4, i7) => match rdMany rdRel n4.toNat s i7 with
                  | some (rels, i8) => some (⟨code, data, syms, rels⟩, i8)
                  | none => none
                | none => none
              | none => none
            | none => none
          | none => none
        | none => none
      | none => none
    | none => none else none
  | none => none
def rdObj (s : ByteArray) : Option ObjD := match rdBody s with
  | some (o, j) => if j = s.size ∧ o.may = true then some o else none
  | none => none
/-- What is read lies within. -/
def ObjIn (o : ObjD) : Prop := o.code.size ≤ 65536 ∧ (o.data.length ≤ 4096 ∧ ∀ x ∈ o.data, (Lit.int .i64 x).wf = true) ∧ (o.syms.length ≤ 1000 ∧ ∀ x ∈ o.syms, SymIn x) ∧ (o.rels.length ≤ 8000 ∧ ∀ x ∈ o.rels, RelIn x)
theorem nums_cot1 : nums cot1 = [67, 79, 84, 49] := by decide
theorem body_sound {s : ByteArray} {o : ObjD} {j : Nat} (h : rdBody s = some (o, j)) : j ≤ s.size ∧ nums s = formB o ++ W.tail s j ∧ ObjIn o := by
  unfold rdBody at h
  split at h
  · next t i0 h0 =>
    split at h
    · next ht =>
      split at h
      · next n1 i1 h1 =>
        split at h
        · next code i2 h2 =>
          split at h
          · next n2 i3 h3 =>
            split at h
            · next data i4 h4 =>
              split at h
              · next n3 i5 h5 =>
                split at h
                · next syms i6 h6 =>
                  split at h
                  · next n4 i7 h7 =>
                    split at h
                    · next rels i8 h8 =>
                      simp at h
                      obtain ⟨rfl, rfl⟩ := h
                      obtain ⟨-, q0, p0, -⟩ := take_sound 4 s 0 t i0 (Nat.zero_le _) h0
                      obtain ⟨-, q1, p1, k1⟩ := up_sound 65536 s i0 n1 i1 q0 h1
                      obtain ⟨-, q2, p2, k2⟩ := take_sound n1.toNat s i1 code i2 q1 h2
                      obtain ⟨-, q3, p3, k3⟩ := up_sound 4096 s i2 n2 i3 q2 h3
                      obtain ⟨-, q4, p4, k4, l4⟩ := many_sound long_sound n2.toNat s i3 data i4 q3 h4
                      obtain ⟨-, q5, p5, k5⟩ := up_sound 1000 s i4 n3 i5 q4 h5
                      obtain ⟨-, q6, p6, k6, l6⟩ := many_sound sym_sound n3.toNat s i5 syms i6 q5 h6
                      obtain ⟨-, q7, p7, k7⟩ := up_sound 8000 s i6 n4 i7 q6 h7
                      obtain ⟨-, q8, p8, k8, l8⟩ := many_sound rel_sound n4.toNat s i7 rels i8 q7 h8
                      have e1 : n1 = code.size := by omega
                      have e2 : n2 = data.length := by omega
                      have e3 : n3 = syms.length := by omega
                      have e4 : n4 = rels.length := by omega
                      refine ⟨q8, ?_, by show code.size ≤ _; omega, ⟨by show data.length ≤ _; omega, l4⟩, ⟨by show syms.length ≤ _; omega, l6⟩, ⟨by show rels.length ≤ _; omega, l8⟩⟩
                      show W.tail s 0 = _
                      rw [p0, p1, p2, p3, p4, p5, p6, p7, p8, ht, nums_cot1, e1, e2, e3, e4]
                      simp only [formB, txt, List.append_assoc]
                    · cases h
                  · cases h
                · cases h
              · cases h
            · cases h
          · cases h
        · cases h
      · cases h
    · cases h
  · cases h
theorem body_compl {s : ByteArray} {o : ObjD} {r : List Int} (ho : ObjIn o) (h : nums s = formB o ++ r) : rdBody s = some (o, (formB o).length) := by
  obtain ⟨c1, ⟨c2, d2⟩, ⟨c3, d3⟩, ⟨c4, d4⟩⟩ := ho
  have h' : W.tail s 0 = nums cot1 ++ (W.put o.code.size ++ (nums o.code ++ (W.put o.data.length ++ (o.data.flatMap long ++ (W.put o.syms.length ++ (o.syms.flatMap symB ++ (W.put o.rels.length ++ (o.rels.flatMap relB ++ r)))))))) := by
    rw [show W.tail s 0 = nums s from rfl, h, nums_cot1]
    simp only [formB, txt, List.append_assoc]
  have e0 := take_compl 4 s 0 cot1 _ (Nat.zero_le _) (by decide) h'
  obtain ⟨t0, u0⟩ := tail_step (Nat.zero_le _) h'
  have e1 := up_compl 65536 (by decide) s _ o.code.size _ t0 (by omega) u0
  obtain ⟨t1, u1⟩ := tail_step t0 u0
  have e2 := take_compl o.code.size s _ o.code _ t1 rfl u1
  obtain ⟨t2, u2⟩ := tail_step t1 u1
  have e3 := up_compl 4096 (by decide) s _ o.data.length _ t2 (by omega) u2
  obtain ⟨t3, u3⟩ := tail_step t2 u2
  have e4 := many_compl long_compl o.data.length s _ o.data _ t3 ⟨rfl, d2⟩ u3
  obtain ⟨t4, u4⟩ := tail_step t3 u3
  have e5 := up_compl 1000 (by decide) s _ o.syms.length _ t4 (by omega) u4
  obtain ⟨t5, u5⟩ := tail_step t4 u4
  have e6 := many_compl sym_compl o.syms.length s _ o.syms _ t5 ⟨rfl, d3⟩ u5
  obtain ⟨t6, u6⟩ := tail_step t5 u5
  have e7 := up_compl 8000 (by decide) s _ o.rels.length _ t6 (by omega) u6
  obtain ⟨t7, u7⟩ := tail_step t6 u6
  have e8 := many_compl rel_compl o.rels.length s _ o.rels _ t7 ⟨rfl, d4⟩ u7
  dsimp only at e0 e1 e2 e3 e5 e7
  simp only [rdBody, e0, e1, if_true, Int.toNat_natCast, e2, e3, e4, e5, e6, e7, e8]
  refine congrArg (fun k => some (o, k)) ?_
  rw [nums_cot1]
  simp only [formB, txt, List.length_append, List.length_cons, List.length_nil]
  omega
theorem obj_sound {s : ByteArray} {o : ObjD} (h : rdObj s = some o) : nums s = formB o ∧ ObjIn o ∧ o.may = true := by
  unfold rdObj at h
  split at h
  · next o' j hb =>
    split at h
    · next hj =>
      simp at h
      subst h
      obtain ⟨h1, h2, h3⟩ := body_sound hb
      rw [hj.1, W.tail_end s s.size (Nat.le_refl _), List.append_nil] at h2
      exact ⟨h2, h3, hj.2⟩
    · cases h
  · cases h
theorem obj_compl {s : ByteArray} {o : ObjD} (ho : ObjIn o) (hm : o.may = true) (h : nums s = formB o) : rdObj s = some o := by
  have hb := body_compl (r := []) ho (by rw [List.append_nil]; exact h)
  have hl : (formB o).length = s.size := by rw [← h, nums_len]
  simp only [rdObj, hb]
  rw [if_pos ⟨hl, hm⟩]
/-- No form stands ahead of another. -/
theorem form_cut {o p : ObjD} {r : List Int} (ho : ObjIn o) (hp : ObjIn p) (hb : ∀ n ∈ formB o, 0 ≤ n ∧ n ≤ 255) (h : formB o = formB p ++ r) : r = [] := by
  have h1 := body_compl (s := strOfNums (formB o)) (r := []) ho (by rw [List.append_nil]; exact nums_of hb)
  have h2 := body_compl (s := strOfNums (formB o)) (r := r) hp (by rw [← h]; exact nums_of hb)
  rw [h1] at h2
  simp at h2
  have := congrArg List.length h
  rw [List.length_append, h2.2] at this
  exact List.length_eq_zero_iff.1 (by omega)

end Go.Proofs.Ytcfdfnghaigkjaa
