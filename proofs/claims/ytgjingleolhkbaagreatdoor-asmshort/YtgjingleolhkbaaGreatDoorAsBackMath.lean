/- Texts there and back: what is printed is read as it was, and what was read is printed word by word. -/
import Derived.Test.YtgjingleolhkbaaGreatDoorAsMath
namespace Go.Proofs.YtgjingleolhkbaaGreatDoor
namespace X
set_option linter.unusedVariables false
set_option linter.unusedSimpArgs false

/-! ### Words that a line may have -/
def clean (w : By) : Prop := w ≠ [] ∧ ∀ c ∈ w, c ≠ 32 ∧ c ≠ 35 ∧ c ≠ 10
theorem clean_name {l : By} (h : name l = true) : clean l := by
  simp only [name, Bool.and_eq_true, decide_eq_true_eq] at h
  obtain ⟨h1, h2, h3, h4⟩ := h
  cases l with
  | nil => simp at h1
  | cons c r =>
    refine ⟨by simp, fun d hd => ?_⟩
    have hi : inn d.toNat = true := by
      rcases List.mem_cons.1 hd with rfl | hd
      · simp only [first] at h3; simp [inn, h3]
      · exact List.all_eq_true.1 h4 d hd
    refine ⟨?_, ?_, ?_⟩ <;> (rintro rfl; revert hi; decide)
theorem clean_pd {l : By} (h : l.all pd = true) (hne : l ≠ []) : clean l := by
  refine ⟨hne, fun d hd => ?_⟩
  have hi := List.all_eq_true.1 h d hd
  refine ⟨?_, ?_, ?_⟩ <;> (rintro rfl; revert hi; decide)
theorem clean_cons {c : UInt8} {l : By} (hc : c ≠ 32 ∧ c ≠ 35 ∧ c ≠ 10) (h : clean l) : clean (c :: l) :=
  ⟨by simp, fun d hd => by rcases List.mem_cons.1 hd with rfl | hd; exact hc; exact h.2 d hd⟩
theorem clean_itoa (n : Int) : clean (Go.Lib.itoa n) := by
  unfold Go.Lib.itoa
  split
  · obtain ⟨d1, -, d3⟩ := dec_digits n.natAbs
    exact clean_cons (by decide) (clean_pd d1 d3)
  · obtain ⟨d1, -, d3⟩ := dec_digits n.toNat
    exact clean_pd d1 d3

/-! ### Registers -/
theorem reg_itoa {a : Int} (h0 : 0 ≤ a) (h : a < 8) : reg (114 :: Go.Lib.itoa a) = some a := by
  obtain ⟨k, rfl⟩ : ∃ k : Nat, a = k := ⟨a.toNat, by omega⟩
  rw [Go.Lib.itoa_nonneg, Go.Lib.decDigits_one (by omega)]
  have := u8_toNat (48 + k) (by omega)
  show (if (114 : UInt8) = 114 ∧ dg (UInt8.ofNat (48 + k)).toNat = true then some (((UInt8.ofNat (48 + k)).toNat : Int) - 48) else none) = _
  rw [if_pos ⟨rfl, by rw [this]; simp [dg]; omega⟩, this]
  congr 1
  omega
theorem reg_some {w : By} {a : Int} (h : reg w = some a) : 114 :: Go.Lib.itoa a = w ∧ 0 ≤ a ∧ a < 10 := by
  unfold reg at h
  split at h
  · rename_i c d
    split at h
    · rename_i hc
      obtain ⟨rfl, hd⟩ := hc
      simp [dg] at hd
      injection h with h
      subst h
      obtain ⟨k, hk⟩ : ∃ k : Nat, (d.toNat : Int) - 48 = k := ⟨d.toNat - 48, by omega⟩
      rw [hk, Go.Lib.itoa_nonneg, Go.Lib.decDigits_one (by omega)]
      refine ⟨?_, by omega, by omega⟩
      congr 1
      rw [show 48 + k = d.toNat by omega]
      simp
    · cases h
  · cases h

/-! ### Instructions -/
def shapes : List By := [[], [65, 78], [65, 66], [65, 66, 78], [65, 78, 66], [65, 64, 78], [64], [65, 64], [65], [78]]
theorem row_shape : ∀ op : Fin 34, (row op.val).2 ∈ shapes := by decide
def mnemOk (m : By) : Bool := decide (m.getLast? ≠ some 58) && (decide (m ≠ wGlobal) && (decide (m ≠ wThread) && decide (m ≠ wWords)))
theorem row_mnem : ∀ op : Fin 34, (row op.val).1 ≠ [] → mnemOk (row op.val).1 = true ∧ opOf (row op.val).1 = some op.val ∧ (∀ c ∈ (row op.val).1, c ≠ 32 ∧ c ≠ 35 ∧ c ≠ 10) := by decide +kernel
theorem opOf_some {f : By} {k : Nat} (h : opOf f = some k) : k < 34 ∧ (row k).1 = f := by
  unfold opOf at h
  rw [List.findIdx?_eq_some_iff_getElem] at h
  obtain ⟨hk, h1, -⟩ := h
  rw [rows_length] at hk
  refine ⟨hk, ?_⟩
  simp only [decide_eq_true_eq] at h1
  rw [← h1, row]
  simp [List.getD, rows_length, hk]
theorem rowOf_some {op : Int} {r : By × By} (h : rowOf op = some r) : 0 ≤ op ∧ op < 34 ∧ r = row op.toNat ∧ r.1 ≠ [] := by
  unfold rowOf at h
  split at h
  · rename_i h1; injection h with h; subst h; exact ⟨h1.1, h1.2.1, rfl, h1.2.2⟩
  · cases h
theorem insOk_split {t : It} (h : insOk t = true) : 0 ≤ t.op ∧ t.op < 34 ∧ (row t.op.toNat).1 ≠ [] ∧ (has (row t.op.toNat).2 64 = decide (t.name ≠ [])) ∧ (t.name = [] ∨ name t.name = true) ∧ (t.a = 0 ∨ has (row t.op.toNat).2 65 = true) ∧ (t.b = 0 ∨ has (row t.op.toNat).2 66 = true) ∧ (t.n = 0 ∨ has (row t.op.toNat).2 78 = true) ∧ isReg t.a = true ∧ isReg t.b = true ∧ numOk t.op t.n = true := by
  unfold insOk at h
  split at h
  · cases h
  · rename_i r hr
    obtain ⟨h1, h2, rfl, h3⟩ := rowOf_some hr
    simp only [Bool.and_eq_true, Bool.or_eq_true, decide_eq_true_eq] at h
    exact ⟨h1, h2, h3, h⟩
/-- Numbers that an item has. -/
def fitsIt (t : It) : Prop := fits t.n ∧ ∀ n ∈ t.words, fits n
theorem isReg_iff {a : Int} : isReg a = true ↔ 0 ≤ a ∧ a < 8 := by simp [isReg]

theorem setAll_ins {t : It} (hk : t.kind = 2) (hw : t.words = []) (hf : fits t.n) (h : insOk t = true) : setAll ⟨2, [], t.op, 0, 0, 0, []⟩ (row t.op.toNat).2 ((row t.op.toNat).2.map (operand t)) = some t := by
  obtain ⟨h1, h2, h3, h4, h5, h6, h7, h8, h9, h10, -⟩ := insOk_split h
  have hs := row_shape ⟨t.op.toNat, by omega⟩
  simp only at hs
  generalize (row t.op.toNat).2 = b at *
  obtain ⟨k, nm, op, a, bb, n, ws⟩ := t
  simp only at *
  subst hk hw
  have ra := reg_itoa (isReg_iff.1 h9).1 (isReg_iff.1 h9).2
  have rb := reg_itoa (isReg_iff.1 h10).1 (isReg_iff.1 h10).2
  have rn := num_itoa hf
  simp only [shapes, List.mem_cons, List.not_mem_nil, or_false] at hs
  rcases hs with rfl | rfl | rfl | rfl | rfl | rfl | rfl | rfl | rfl | rfl <;>
    simp [has] at h4 h6 h7 h8 <;> simp_all [setAll, set, operand]

theorem setAll_said {t0 t : It} {b : By} {ws : List By} (hs : b ∈ shapes) (h : setAll t0 b ws = some t) : ws = b.map (operand t) ∧ t.op = t0.op ∧ t.kind = t0.kind ∧ t.words = t0.words := by
  simp only [shapes, List.mem_cons, List.not_mem_nil, or_false] at hs
  have e0 : ∀ {ws : List By}, setAll t0 [] ws = some t → ws = [] := by intro ws h; cases ws with | nil => rfl | cons => simp [setAll] at h
  rcases hs with rfl | rfl | rfl | rfl | rfl | rfl | rfl | rfl | rfl | rfl <;>
    (rcases ws with _ | ⟨w0, _ | ⟨w1, _ | ⟨w2, _ | ⟨w3, ws⟩⟩⟩⟩ <;> simp [setAll, set, Option.bind_eq_some_iff] at h)
  all_goals first | subst h | (obtain ⟨y0, h0, h⟩ := h; subst h) | (obtain ⟨xy0, ⟨y0, h0, rfl⟩, h⟩ := h; first | subst h | (obtain ⟨y1, h1, h⟩ := h; subst h) | (obtain ⟨xy1, ⟨y1, h1, rfl⟩, h⟩ := h; first | subst h | (obtain ⟨y2, h2, h⟩ := h; subst h) | (obtain ⟨xy2, ⟨y2, h2, rfl⟩, h⟩ := h; fail)))
  all_goals try (obtain ⟨z0, h0, rfl⟩ := h0)
  all_goals simp [operand]
  all_goals first
    | exact ⟨(reg_some h0).1.symm, (num_some h1).symm⟩
    | exact ⟨(reg_some h0).1.symm, (reg_some h1).1.symm⟩
    | exact ⟨(reg_some h0).1.symm, (reg_some h1).1.symm, (num_some h2).symm⟩
    | exact ⟨(reg_some h0).1.symm, (num_some h1).symm, (reg_some h2).1.symm⟩
    | exact (reg_some h0).1.symm
    | exact (num_some h0).symm

theorem nums_itoa : ∀ {l : List Int}, (∀ n ∈ l, fits n) → nums (l.map Go.Lib.itoa) = some l
  | [], _ => rfl
  | n :: l, h => by
    simp only [List.map_cons, nums, num_itoa (h n (by simp)), Option.bind_some]
    rw [nums_itoa (fun m hm => h m (by simp [hm]))]
    rfl
theorem nums_some : ∀ {ws : List By} {l : List Int}, nums ws = some l → ws = l.map Go.Lib.itoa ∧ ∀ n ∈ l, fits n
  | [], l, h => by simp [nums] at h; subst h; simp
  | w :: ws, l, h => by
    simp only [nums, Option.bind_eq_some_iff, Option.map_eq_some_iff] at h
    obtain ⟨n, h1, r, h2, rfl⟩ := h
    obtain ⟨h3, h4⟩ := nums_some h2
    refine ⟨by simp [← num_some h1, h3], fun m hm => ?_⟩
    rcases List.mem_cons.1 hm with rfl | hm
    · exact num_fits h1
    · exact h4 m hm

theorem itOk_ins {t : It} (h : itOk t = true) (hk : t.kind = 2) : insOk t = true ∧ t.words = [] := by
  unfold itOk at h
  rw [hk] at h
  simpa using h
theorem itOk_cases {t : It} (h : itOk t = true) : (t.kind = 2 ∧ insOk t = true ∧ t.words = []) ∨ (t.kind = 3 ∧ name t.name = true ∧ t.words ≠ [] ∧ t.words.length ≤ 4096 ∧ zeroIns t = true) ∨ ((t.kind = 1 ∨ t.kind = 4 ∨ t.kind = 5) ∧ name t.name = true ∧ t.words = [] ∧ zeroIns t = true) := by
  unfold itOk at h
  split at h
  · rename_i hk; simp only [Bool.and_eq_true, decide_eq_true_eq] at h; exact .inr (.inr ⟨hk, h⟩)
  · split at h
    · rename_i hk
      simp only [Bool.and_eq_true, decide_eq_true_eq] at h
      exact .inr (.inl ⟨hk, h.1, (fun e => by rw [e] at h; simp at h), h.2.2⟩)
    · split at h
      · rename_i hk; simp only [Bool.and_eq_true, decide_eq_true_eq] at h; exact .inl ⟨hk, h⟩
      · cases h
theorem zeroIns_eq {t : It} (h : zeroIns t = true) : t.op = 0 ∧ t.a = 0 ∧ t.b = 0 ∧ t.n = 0 := by simpa [zeroIns] using h
theorem last_colon (l : By) : (l ++ [58]).getLast? = some 58 := by simp
theorem wGlobal_last : wGlobal.getLast? ≠ some 58 := by decide
theorem wThread_last : wThread.getLast? ≠ some 58 := by decide
theorem wWords_last : wWords.getLast? ≠ some 58 := by decide

theorem take_ins {m : By} (h : mnemOk m = true) (r : List By) : take m r = takeIns m r := by
  simp only [mnemOk, Bool.and_eq_true, decide_eq_true_eq] at h
  unfold take
  rw [if_neg h.1, if_neg h.2.1, if_neg h.2.2.1, if_neg h.2.2.2]

/-- What an item's line says is read as the item. -/
theorem read_said {t : It} (h : itOk t = true) (hf : fitsIt t) : read (said t) = some t := by
  have key : ∀ {f : By} {r : List By}, take f r = some t → read (f :: r) = some t := fun e => by simp [read, e, h]
  rcases itOk_cases h with ⟨hk, hi, hw⟩ | ⟨hk, hn, hw, hl, hz⟩ | ⟨hk, hn, hw, hz⟩
  · have hs : said t = saidIns t := by unfold said; rw [hk]; rfl
    rw [hs]
    obtain ⟨h1, h2, h3, -⟩ := insOk_split hi
    obtain ⟨m1, m2, -⟩ := row_mnem ⟨t.op.toNat, by omega⟩ h3
    refine key ?_
    rw [take_ins m1]
    unfold takeIns
    rw [m2]
    simp only
    rw [if_pos (by simp), show ((t.op.toNat : Nat) : Int) = t.op by omega]
    exact setAll_ins hk hw hf.1 hi
  · have hs : said t = wWords :: t.name :: t.words.map Go.Lib.itoa := by unfold said; rw [hk]; rfl
    rw [hs]
    refine key ?_
    unfold take
    rw [if_neg wWords_last, if_neg (by decide), if_neg (by decide), if_pos rfl]
    simp only [takeWords, nums_itoa hf.2, Option.map_some]
    obtain ⟨z1, z2, z3, z4⟩ := zeroIns_eq hz
    cases t; simp_all
  · obtain ⟨z1, z2, z3, z4⟩ := zeroIns_eq hz
    rcases hk with hk | hk | hk
    · have hs : said t = [t.name ++ [58]] := by unfold said; rw [if_pos hk]
      rw [hs]
      refine key ?_
      unfold take
      rw [if_pos (last_colon _), if_pos rfl, List.dropLast_concat]
      cases t; simp_all
    · have hs : said t = [wGlobal, t.name] := by unfold said; rw [hk]; rfl
      rw [hs]
      refine key ?_
      unfold take
      rw [if_neg wGlobal_last, if_pos rfl]
      cases t; simp_all [takeNamed]
    · have hs : said t = [wThread, t.name] := by unfold said; rw [hk]; rfl
      rw [hs]
      refine key ?_
      unfold take
      rw [if_neg wThread_last, if_neg (by decide), if_pos rfl]
      cases t; simp_all [takeNamed]

theorem dropLast_colon {f : By} (h : f.getLast? = some 58) : f.dropLast ++ [58] = f := by
  have hne : f ≠ [] := by rintro rfl; simp at h
  have := List.dropLast_concat_getLast hne
  rw [List.getLast?_eq_some_getLast hne] at h
  injection h with h
  rw [h] at this
  exact this
/-- What is read is said word by word. -/
theorem said_read {ws : List By} {t : It} (h : read ws = some t) : said t = ws ∧ itOk t = true := by
  unfold read at h
  cases ws with
  | nil => cases h
  | cons f r =>
    simp only [Option.bind_eq_some_iff] at h
    obtain ⟨t', h1, h2⟩ := h
    split at h2
    · rename_i hok
      injection h2 with h2
      subst h2
      refine ⟨?_, hok⟩
      unfold take at h1
      split at h1
      · rename_i hl
        split at h1
        · rename_i hr; injection h1 with h1; subst h1 hr; simp [said, dropLast_colon hl]
        · cases h1
      · split at h1
        · rename_i hf
          unfold takeNamed at h1
          split at h1
          · injection h1 with h1; subst h1 hf; simp [said]
          · cases h1
        · split at h1
          · rename_i hf
            unfold takeNamed at h1
            split at h1
            · injection h1 with h1; subst h1 hf; simp [said]
            · cases h1
          · split at h1
            · rename_i hf
              unfold takeWords at h1
              split at h1
              · cases h1
              · simp only [Option.map_eq_some_iff] at h1
                obtain ⟨l, hl, rfl⟩ := h1
                obtain ⟨e, -⟩ := nums_some hl
                subst hf e
                simp [said]
            · unfold takeIns at h1
              split at h1
              · cases h1
              · rename_i op hop
                obtain ⟨ho, hm⟩ := opOf_some hop
                split at h1
                · obtain ⟨e1, e2, e3, -⟩ := setAll_said (row_shape ⟨op, ho⟩) h1
                  simp only at e1 e2 e3
                  have : said t' = saidIns t' := by unfold said; rw [e3]; rfl
                  rw [this, saidIns, e2]
                  simp only [Int.toNat_natCast]
                  rw [hm, ← e1]
                · cases h1
    · cases h2
theorem read_fits {ws : List By} {t : It} (h : read ws = some t) : fitsIt t := by
  obtain ⟨hs, hok⟩ := said_read h
  unfold read at h
  cases ws with
  | nil => cases h
  | cons f r =>
    simp only [Option.bind_eq_some_iff] at h
    obtain ⟨t', h1, h2⟩ := h
    split at h2
    · injection h2 with h2
      subst h2
      unfold take at h1
      split at h1
      · split at h1
        · injection h1 with h1; subst h1; exact ⟨by constructor <;> simp, by simp⟩
        · cases h1
      · have hnm : ∀ k, takeNamed k r = some t' → fitsIt t' := fun k h1 => by
          unfold takeNamed at h1
          split at h1
          · injection h1 with h1; subst h1; exact ⟨by constructor <;> simp, by simp⟩
          · cases h1
        split at h1
        · exact hnm _ h1
        · split at h1
          · exact hnm _ h1
          · split at h1
            · unfold takeWords at h1
              split at h1
              · cases h1
              · simp only [Option.map_eq_some_iff] at h1
                obtain ⟨l, hl, rfl⟩ := h1
                exact ⟨by constructor <;> simp, (nums_some hl).2⟩
            · unfold takeIns at h1
              split at h1
              · cases h1
              · rename_i op hop
                split at h1
                · obtain ⟨ho, -⟩ := opOf_some hop
                  have hsh := row_shape ⟨op, ho⟩
                  simp only at hsh
                  obtain ⟨-, -, -, e4⟩ := setAll_said hsh h1
                  refine ⟨?_, by rw [e4]; simp⟩
                  clear e4 hs hok hnm
                  simp only [shapes, List.mem_cons, List.not_mem_nil, or_false] at hsh
                  generalize (row op).2 = b at h1 hsh
                  rcases hsh with rfl | rfl | rfl | rfl | rfl | rfl | rfl | rfl | rfl | rfl <;>
                    (rcases r with _ | ⟨w0, _ | ⟨w1, _ | ⟨w2, _ | ⟨w3, ws⟩⟩⟩⟩ <;> simp [setAll, set, Option.bind_eq_some_iff] at h1)
                  all_goals first | subst h1 | (obtain ⟨y0, h0, h1⟩ := h1; subst h1) | (obtain ⟨xy0, ⟨y0, h0, rfl⟩, h1⟩ := h1; first | subst h1 | (obtain ⟨y1, h3, h1⟩ := h1; subst h1) | (obtain ⟨xy1, ⟨y1, h3, rfl⟩, h1⟩ := h1; first | subst h1 | (obtain ⟨y2, h4, h1⟩ := h1; subst h1) | (obtain ⟨xy2, ⟨y2, h4, rfl⟩, h1⟩ := h1; fail)))
                  all_goals try (obtain ⟨z0, h0, rfl⟩ := h0)
                  all_goals first
                    | (exact ⟨(by simp : (-9223372036854775808 : Int) ≤ 0), (by simp : (0 : Int) ≤ 9223372036854775807)⟩)
                    | exact num_fits h3
                    | exact num_fits h4
                    | exact num_fits h0
                · cases h1
    · cases h2

theorem said_clean {t : It} (h : itOk t = true) : said t ≠ [] ∧ ∀ w ∈ said t, clean w := by
  have hnm : ∀ {l : By}, name l = true → clean (l ++ [58]) := fun hl => by
    obtain ⟨h1, h2⟩ := clean_name hl
    refine ⟨by simp, fun c hc => ?_⟩
    rcases List.mem_append.1 hc with hc | hc
    · exact h2 c hc
    · simp at hc; subst hc; decide
  have cG : clean wGlobal := ⟨by decide, by decide⟩
  have cT : clean wThread := ⟨by decide, by decide⟩
  have cW : clean wWords := ⟨by decide, by decide⟩
  rcases itOk_cases h with ⟨hk, hi, hw⟩ | ⟨hk, hn, hw, hl, hz⟩ | ⟨hk, hn, hw, hz⟩
  · have hs : said t = saidIns t := by unfold said; rw [hk]; rfl
    rw [hs]
    obtain ⟨h1, h2, h3, h4, h5, -⟩ := insOk_split hi
    obtain ⟨-, -, m3⟩ := row_mnem ⟨t.op.toNat, by omega⟩ h3
    refine ⟨by simp [saidIns], fun w hw => ?_⟩
    rcases List.mem_cons.1 hw with rfl | hw
    · exact ⟨h3, m3⟩
    · obtain ⟨c, hc, rfl⟩ := List.mem_map.1 hw
      unfold operand
      split
      · exact clean_cons (by decide) (clean_itoa _)
      · split
        · exact clean_cons (by decide) (clean_itoa _)
        · split
          · exact clean_itoa _
          · rename_i c1 c2 c3
            have hsh := row_shape ⟨t.op.toNat, by omega⟩
            simp only at hsh
            have h64 : has (row t.op.toNat).2 64 = true := by
              generalize (row t.op.toNat).2 = b at *
              simp only [shapes, List.mem_cons, List.not_mem_nil, or_false] at hsh
              rcases hsh with rfl | rfl | rfl | rfl | rfl | rfl | rfl | rfl | rfl | rfl <;> simp [has] at hc ⊢ <;> simp_all
            rw [h64] at h4
            have hne : t.name ≠ [] := by simpa using h4.symm
            exact clean_name (h5.resolve_left hne)
  · have hs : said t = wWords :: t.name :: t.words.map Go.Lib.itoa := by unfold said; rw [hk]; rfl
    rw [hs]
    refine ⟨by simp, fun w hw => ?_⟩
    rcases List.mem_cons.1 hw with rfl | hw
    · exact cW
    · rcases List.mem_cons.1 hw with rfl | hw
      · exact clean_name hn
      · obtain ⟨n, -, rfl⟩ := List.mem_map.1 hw; exact clean_itoa n
  · rcases hk with hk | hk | hk
    · have hs : said t = [t.name ++ [58]] := by unfold said; rw [if_pos hk]
      rw [hs]
      refine ⟨by simp, fun w hw => ?_⟩
      simp at hw; subst hw; exact hnm hn
    · have hs : said t = [wGlobal, t.name] := by unfold said; rw [hk]; rfl
      rw [hs]
      refine ⟨by simp, fun w hw => ?_⟩
      simp at hw; rcases hw with rfl | rfl; exact cG; exact clean_name hn
    · have hs : said t = [wThread, t.name] := by unfold said; rw [hk]; rfl
      rw [hs]
      refine ⟨by simp, fun w hw => ?_⟩
      simp at hw; rcases hw with rfl | rfl; exact cT; exact clean_name hn

/-! ### Cutting -/
theorem fieldsGo_app : ∀ (w cur l : By), (∀ c ∈ w, c ≠ 32) → fieldsGo cur (w ++ l) = fieldsGo (cur ++ w) l
  | [], cur, l, _ => by simp
  | c :: w, cur, l, h => by
    rw [List.cons_append, fieldsGo, if_neg (h c (by simp)), fieldsGo_app w _ l (fun d hd => h d (by simp [hd]))]
    simp
theorem fields_join : ∀ {ws : List By}, (∀ w ∈ ws, clean w) → fields (Go.Lib.join ws [32]) = ws
  | [], _ => rfl
  | [w], h => by
    rw [Go.Lib.join_one]
    have hw := h w (by simp)
    have := fieldsGo_app w [] [] (fun c hc => (hw.2 c hc).1)
    simp only [List.append_nil, List.nil_append] at this
    rw [fields, this, fieldsGo, if_neg hw.1]
  | w :: v :: ws, h => by
    have hw := h w (by simp)
    have ih := fields_join (ws := v :: ws) (fun x hx => h x (by simp at hx ⊢; exact .inr hx))
    have e : Go.Lib.join (w :: v :: ws) [32] = w ++ 32 :: Go.Lib.join (v :: ws) [32] := by
      rw [Go.Lib.join_cons, Go.Lib.join_cons]; simp [Go.Lib.joinTail]
    rw [e, fields, fieldsGo_app w [] _ (fun c hc => (hw.2 c hc).1), List.nil_append, fieldsGo, if_pos rfl, if_neg hw.1]
    rw [fields] at ih
    rw [ih]
theorem join_clean : ∀ {ws : List By}, (∀ w ∈ ws, clean w) → ∀ c ∈ Go.Lib.join ws [32], c ≠ 35 ∧ c ≠ 10
  | [], _ => by simp [Go.Lib.join_nil]
  | w :: ws, h => by
    rw [Go.Lib.join_cons]
    intro c hc
    rcases List.mem_append.1 hc with hc | hc
    · exact ((h w (by simp)).2 c hc).2
    · simp only [Go.Lib.joinTail, List.mem_flatten, List.mem_map] at hc
      obtain ⟨x, ⟨v, hv, rfl⟩, hx⟩ := hc
      rcases List.mem_append.1 hx with hx | hx
      · simp at hx; subst hx; decide
      · exact ((h v (by simp [hv])).2 c hx).2
theorem ahead_all {l : By} (h : ∀ c ∈ l, c ≠ 35) : ahead l = l := by
  induction l with
  | nil => rfl
  | cons c l ih =>
    have h1 := h c (by simp)
    have := ih (fun d hd => h d (by simp [hd]))
    unfold ahead at this ⊢
    rw [List.takeWhile_cons]
    simp [h1, this]
theorem words_line {t : It} (h : itOk t = true) : wordsOf (Go.Lib.join (said t) [32]) = said t := by
  unfold wordsOf
  rw [ahead_all (fun c hc => (join_clean (said_clean h).2 c hc).1), fields_join (said_clean h).2]
theorem lines_ne (l : By) : lines l ≠ [] := by
  induction l with
  | nil => simp [lines]
  | cons c l ih =>
    unfold lines
    split
    · simp
    · split <;> simp
theorem lines_app : ∀ (l r : By), (∀ c ∈ l, c ≠ 10) → lines (l ++ 10 :: r) = l :: lines r
  | [], r, _ => by simp [lines]
  | c :: l, r, h => by
    have h1 := h c (by simp)
    have := lines_app l r (fun d hd => h d (by simp [hd]))
    rw [List.cons_append, lines, if_neg h1, this]
theorem lines_one : ∀ (l : By), (∀ c ∈ l, c ≠ 10) → lines l = [l]
  | [], _ => rfl
  | c :: l, h => by
    have h1 := h c (by simp)
    have := lines_one l (fun d hd => h d (by simp [hd]))
    rw [lines, if_neg h1, this]
theorem lines_joined : ∀ (s t : By), lines (s ++ 10 :: t) = lines s ++ lines t
  | [], t => by simp [lines]
  | c :: s, t => by
    have ih := lines_joined s t
    rw [List.cons_append, lines, lines]
    by_cases h : c = 10
    · rw [if_pos h, if_pos h, ih]; rfl
    · rw [if_neg h, if_neg h, ih]
      cases hl : lines s with
      | nil => exact absurd hl (lines_ne s)
      | cons x xs => simp
theorem wl_joined (s t : By) : wl (s ++ 10 :: t) = wl s ++ wl t := by
  unfold wl
  rw [lines_joined, List.map_append, List.filter_append]
theorem wl_nil : wl [] = [] := by decide
theorem wl_text : ∀ {l : List It}, (∀ t ∈ l, itOk t = true) → wl (text l) = l.map said
  | [], _ => wl_nil
  | t :: l, h => by
    have ht := h t (by simp)
    have ih := wl_text (l := l) (fun x hx => h x (by simp [hx]))
    have e : text (t :: l) = Go.Lib.join (said t) [32] ++ 10 :: text l := by simp [text, lineOf]
    rw [e, wl, lines_app _ _ (fun c hc => (join_clean (said_clean ht).2 c hc).2), List.map_cons, words_line ht, List.filter_cons_of_pos (by simpa using (said_clean ht).1)]
    rw [wl] at ih
    rw [ih]
    rfl
theorem reads_said : ∀ {l : List It}, (∀ t ∈ l, itOk t = true) → (∀ t ∈ l, fitsIt t) → reads (l.map said) = some l
  | [], _, _ => rfl
  | t :: l, h, hf => by
    simp only [List.map_cons, reads, read_said (h t (by simp)) (hf t (by simp)), Option.bind_some]
    rw [reads_said (fun x hx => h x (by simp [hx])) (fun x hx => hf x (by simp [hx]))]
    rfl
theorem reads_some : ∀ {ws : List (List By)} {l : List It}, reads ws = some l → ws = l.map said ∧ (∀ t ∈ l, itOk t = true) ∧ ∀ t ∈ l, fitsIt t
  | [], l, h => by simp [reads] at h; subst h; simp
  | w :: ws, l, h => by
    simp only [reads, Option.bind_eq_some_iff, Option.map_eq_some_iff] at h
    obtain ⟨t, h1, r, h2, rfl⟩ := h
    obtain ⟨h3, h4, h5⟩ := reads_some h2
    obtain ⟨h6, h7⟩ := said_read h1
    refine ⟨by simp [h6, h3], ?_, ?_⟩
    · intro x hx
      rcases List.mem_cons.1 hx with rfl | hx
      · exact h7
      · exact h4 x hx
    · intro x hx
      rcases List.mem_cons.1 hx with rfl | hx
      · exact read_fits h1
      · exact h5 x hx
theorem itsOk_iff {l : List It} : itsOk l = true ↔ l.length ≤ 20000 ∧ ∀ t ∈ l, itOk t = true := by simp [itsOk]
/-- What is printed is read as it was. -/
theorem parse_print {l : List It} {s : By} (hf : ∀ t ∈ l, fitsIt t) (h : print l = (s, 0)) : parse s = (l, 0) := by
  unfold print at h
  split at h
  · rename_i hok
    split at h
    · cases h
    · rename_i hl
      cases h
      obtain ⟨h1, h2⟩ := itsOk_iff.1 hok
      unfold parse
      rw [if_neg hl, wl_text h2, reads_said h2 hf]
      simp only
      rw [if_pos h1]
  · cases h
/-! ### How long a text is -/
def weight (ws : List By) : Nat := (Go.Lib.join ws [32]).length + 1
theorem joinTail_len (r : List By) : (Go.Lib.joinTail [32] r).length = (r.map fun w => w.length + 1).sum := by
  unfold Go.Lib.joinTail
  induction r with
  | nil => rfl
  | cons w r ih => simp at ih ⊢; omega
theorem weight_cons (w : By) (ws : List By) : weight (w :: ws) = ((w :: ws).map fun w => w.length + 1).sum := by
  unfold weight
  rw [Go.Lib.join_cons, List.length_append, joinTail_len]
  simp
  omega
theorem fieldsGo_len : ∀ (l cur : By), ((fieldsGo cur l).map fun w => w.length + 1).sum ≤ cur.length + l.length + 1
  | [], cur => by unfold fieldsGo; split <;> simp
  | c :: l, cur => by
    unfold fieldsGo
    split
    · split
      · have := fieldsGo_len l []
        simp at this ⊢; omega
      · have := fieldsGo_len l []
        simp at this ⊢; omega
    · have := fieldsGo_len l (cur ++ [c])
      simp at this ⊢; omega
theorem weight_words {l : By} (h : wordsOf l ≠ []) : weight (wordsOf l) ≤ l.length + 1 := by
  have h1 := fieldsGo_len (ahead l) []
  have h2 : (ahead l).length ≤ l.length := List.Sublist.length_le (List.takeWhile_sublist _)
  unfold wordsOf fields at *
  cases hw : fieldsGo [] (ahead l) with
  | nil => exact absurd hw h
  | cons w ws =>
    rw [hw] at h1
    rw [weight_cons]
    simp at h1 ⊢
    omega
theorem lines_len (l : By) : ((lines l).map fun x => x.length + 1).sum = l.length + 1 := by
  induction l with
  | nil => rfl
  | cons c l ih =>
    unfold lines
    split
    · simp at ih ⊢; omega
    · cases hl : lines l with
      | nil => exact absurd hl (lines_ne l)
      | cons x xs => rw [hl] at ih; simp at ih ⊢; omega
theorem wl_weight_aux : ∀ (ls : List By), (((ls.map wordsOf).filter fun ws => decide (ws ≠ [])).map weight).sum ≤ (ls.map fun x => x.length + 1).sum
  | [] => Nat.le_refl _
  | x :: ls => by
    have ih := wl_weight_aux ls
    rw [List.map_cons, List.filter_cons]
    split
    · rename_i h
      have := weight_words (l := x) (by simpa using h)
      simp at ih ⊢; omega
    · simp at ih ⊢; omega
theorem wl_weight (s : By) : ((wl s).map weight).sum ≤ s.length + 1 := by
  rw [← lines_len s]; exact wl_weight_aux _
theorem wl_count_aux : ∀ (ls : List By), ((ls.map wordsOf).filter fun ws => decide (ws ≠ [])).length + ls.length ≤ (ls.map fun x => x.length + 1).sum
  | [] => Nat.le_refl _
  | x :: ls => by
    have ih := wl_count_aux ls
    rw [List.map_cons, List.filter_cons]
    split
    · rename_i h
      have : x ≠ [] := by rintro rfl; simp [wordsOf, ahead, fields, fieldsGo] at h
      have : 1 ≤ x.length := by cases x with | nil => exact absurd rfl this | cons => simp
      simp at ih ⊢; omega
    · simp at ih ⊢; omega
theorem wl_count (s : By) : (wl s).length ≤ s.length := by
  have h1 := wl_count_aux (lines s)
  rw [lines_len] at h1
  have h2 : 1 ≤ (lines s).length := by cases h : lines s with | nil => exact absurd h (lines_ne s) | cons => simp
  have h3 : (wl s).length + (lines s).length ≤ s.length + 1 := h1
  omega
theorem text_len (l : List It) : (text l).length = ((l.map said).map weight).sum := by
  induction l with
  | nil => rfl
  | cons t l ih => simp [text, lineOf, weight] at ih ⊢; omega
/-- What was read is printed, and read again as it was. -/
theorem print_parse {s : By} {l : List It} (hs : s.length < 200000) (h : parse s = (l, 0)) : print l = (text l, 0) ∧ parse (text l) = (l, 0) := by
  unfold parse at h
  rw [if_neg (by omega)] at h
  split at h
  · cases h
  · rename_i l' hr
    split at h
    · rename_i hl
      cases h
      obtain ⟨h1, h2, h3⟩ := reads_some hr
      have hp : print l = (text l, 0) := by
        unfold print
        rw [if_pos (itsOk_iff.2 ⟨hl, h2⟩), if_neg]
        rw [text_len, ← h1]
        have := wl_weight s
        omega
      exact ⟨hp, parse_print h3 hp⟩
    · cases h
/-- What came out of Parse may be, and its numbers fit. -/
theorem parse_ok {s : By} {l : List It} {z : Nat} (h : parse s = (l, z)) : (z = 0 ∨ l = []) ∧ (z = 0 ∨ z = 2 ∨ z = 8) ∧ l.length ≤ 20000 ∧ (∀ t ∈ l, itOk t = true) ∧ ∀ t ∈ l, fitsIt t := by
  unfold parse at h
  split at h
  · cases h; simp
  · split at h
    · cases h; simp
    · rename_i l' hr
      split at h
      · rename_i hl
        cases h
        obtain ⟨h1, h2, h3⟩ := reads_some hr
        exact ⟨.inl rfl, .inl rfl, hl, h2, h3⟩
      · cases h; simp
theorem reads_app : ∀ (a b : List (List By)), reads (a ++ b) = (reads a).bind fun x => (reads b).map fun y => x ++ y
  | [], b => by simp [reads]
  | w :: a, b => by
    rw [List.cons_append, reads, reads, reads_app a b]
    cases read w with
    | none => rfl
    | some t =>
      cases reads a with
      | none => rfl
      | some x => cases reads b with
        | none => rfl
        | some y => rfl
theorem reads_length : ∀ {ws : List (List By)} {l : List It}, reads ws = some l → l.length = ws.length := fun h => by rw [(reads_some h).1]; simp
/-- Two texts one behind the other. -/
theorem parse_joined {s t : By} (hl : s.length + 1 + t.length ≤ 20000) : parse (s ++ 10 :: t) = if (parse (s ++ [10])).2 = 0 ∧ (parse t).2 = 0 then ((parse (s ++ [10])).1 ++ (parse t).1, 0) else ([], 2) := by
  have key : ∀ (x : By), x.length ≤ 20000 → parse x = match reads (wl x) with | none => ([], 2) | some l => (l, 0) := fun x hx => by
    unfold parse
    rw [if_neg (by omega)]
    cases hr : reads (wl x) with
    | none => rfl
    | some l =>
      simp only
      rw [if_pos]
      rw [reads_length hr]
      exact Nat.le_trans (wl_count x) hx
  rw [key _ (by simp; omega), key (s ++ [10]) (by simp; omega), key t (by omega)]
  have e1 : wl (s ++ [10]) = wl s := by rw [show s ++ [10] = s ++ 10 :: ([] : By) from rfl, wl_joined, wl_nil, List.append_nil]
  rw [e1, wl_joined, reads_app]
  cases reads (wl s) with
  | none => simp
  | some x => cases reads (wl t) with
    | none => simp
    | some y => simp

end X
end Go.Proofs.YtgjingleolhkbaaGreatDoor
