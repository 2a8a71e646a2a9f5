/- Places, one temp after the other: what comes out is right. No walk. -/
import Derived.Test.YtljgpngbkmembaaDoorAMAm
import Derived.Test.YtljgpngbkmembaaDoorAMAl
import Derived.Test.YtljgpngbkmembaaDoorAMAc
namespace Go.Proofs.YtljgpngbkmembaaDoor
open Go.RowKit Go.Maps Go.Shelf
set_option linter.unusedVariables false
set_option linter.unusedSimpArgs false
namespace F
/-- The place that is tried after so many others; kept: slots alone. -/
def plc (k : Bool) (j : Nat) : Int := if k = true then 8 + (j : Int) else if j < 4 then 1 + (j : Int) else 4 + (j : Int)
theorem plc_succ (k : Bool) (j : Nat) : plc k (j + 1) = if plc k j = 4 then 8 else plc k j + 1 := by
  unfold plc
  cases k <;> simp <;> repeat (first | omega | split)
theorem plc_zero (k : Bool) : plc k 0 = if k = true then 8 else 1 := by
  unfold plc
  cases k <;> simp
theorem plc_in (k : Bool) {j : Nat} (h : j < 500) : 1 ≤ plc k j ∧ plc k j < 508 := by
  unfold plc
  cases k <;> simp <;> repeat (first | omega | split)
/-- Has one of them this place? -/
def rej (ws us : List Int) (p : Int) : Bool := us.any fun o => decide (wAt ws o = p)
def freeJ (ws us : List Int) (k : Bool) : Nat := (List.range 500).findIdx fun j => !rej ws us (plc k j)
/-- The first place that none of them has. -/
def freeF (ws us : List Int) (k : Bool) : Int := plc k (freeJ ws us k)
theorem free_is {ws us : List Int} {k : Bool} {j : Nat} (hj : j < 500) (hr : ∀ i, i < j → rej ws us (plc k i) = true) (hn : rej ws us (plc k j) = false) : freeF ws us k = plc k j := by
  unfold freeF freeJ
  congr 1
  refine (List.findIdx_eq (by simpa using hj)).2 ⟨by simp [hn], fun i hi => by simp [hr i hi]⟩
/-- Where all others' places are not too far, one is found, and not too far. -/
theorem free_found {ws us : List Int} {S : Int} (k : Bool) (h0 : 0 ≤ S) (h4 : S ≤ 400) (hw : ∀ o, wAt ws o < 8 + S) {j : Nat} (hr : ∀ i, i < j → rej ws us (plc k i) = true) : j ≤ 404 ∧ plc k j ≤ 8 + S := by
  have key : ∀ i, i < j → plc k i < 8 + S := fun i hi => by
    have := hr i hi
    unfold rej at this
    rw [List.any_eq_true] at this
    obtain ⟨o, _, h⟩ := this
    have := of_decide_eq_true h
    have := hw o
    omega
  cases j with
  | zero => unfold plc; cases k <;> simp <;> omega
  | succ i =>
    have h1 := key i (by omega)
    unfold plc at h1 ⊢
    cases k <;> simp at h1 ⊢
    · split at h1 <;> split <;> omega
    · omega
theorem free_spec {ws us : List Int} {S : Int} (k : Bool) (h0 : 0 ≤ S) (h4 : S ≤ 400) (hw : ∀ o, wAt ws o < 8 + S) : rej ws us (freeF ws us k) = false ∧ freeF ws us k ≤ 8 + S ∧ (k = true → 8 ≤ freeF ws us k) ∧ ((1 ≤ freeF ws us k ∧ freeF ws us k ≤ 4) ∨ 8 ≤ freeF ws us k) := by
  have hex : ∃ j, j < 500 ∧ rej ws us (plc k j) = false := by
    apply Classical.byContradiction
    intro hc
    have := (free_found (us := us) (j := 450) k h0 h4 hw fun i hi => by
      cases h : rej ws us (plc k i) with
      | true => rfl
      | false => exact absurd ⟨i, by omega, h⟩ hc).1
    omega
  obtain ⟨j0, hj0, hn0⟩ := hex
  have hlt : freeJ ws us k < 500 := by
    unfold freeJ
    have : (List.range 500).findIdx (fun j => !rej ws us (plc k j)) < (List.range 500).length := List.findIdx_lt_length_of_exists ⟨j0, List.mem_range.2 hj0, by simp [hn0]⟩
    simpa using this
  have hs := (List.findIdx_eq (p := fun j => !rej ws us (plc k j)) (xs := List.range 500) (i := freeJ ws us k) (by simpa using hlt)).1 rfl
  simp only [List.getElem_range, Bool.not_eq_true', Bool.not_eq_false'] at hs
  obtain ⟨h1, h2⟩ := hs
  refine ⟨h1, (free_found k h0 h4 hw fun i hi => h2 i hi).2, fun hk => ?_, ?_⟩
  · unfold freeF plc; rw [if_pos hk]; omega
  · unfold freeF plc
    split
    · omega
    · split <;> omega
def upd1 (u : Nat → Nat → Nat) (a b : Nat) : Nat → Nat → Nat := fun t => if t = a then ins (u t) b else u t
def addP (u : Nat → Nat → Nat) (p : Int × Int) : Nat → Nat → Nat := upd1 (upd1 u p.1.toNat p.2.toNat) p.2.toNat p.1.toNat
/-- From whom each temp's place must differ. -/
def unS (ps : List (Int × Int)) : Nat → Nat → Nat := ps.foldl addP (fun _ => zero7)
theorem unS_take (ps : List (Int × Int)) {k : Nat} {p : Int × Int} (h : ps[k]? = some p) : unS (ps.take (k + 1)) = addP (unS (ps.take k)) p := by
  unfold unS
  rw [List.take_add_one, h, List.foldl_append]
  rfl
theorem upd1_s7 {u : Nat → Nat → Nat} (h : ∀ t, Set7 (u t)) (a b : Nat) : ∀ t, Set7 (upd1 u a b t) := fun t => by
  unfold upd1
  split
  · exact (h t).ins b
  · exact h t
theorem unS_s7 (ps : List (Int × Int)) : ∀ t, Set7 (unS ps t) := by
  unfold unS
  have : ∀ (ps : List (Int × Int)) (u : Nat → Nat → Nat), (∀ t, Set7 (u t)) → ∀ t, Set7 (ps.foldl addP u t) := by
    intro ps
    induction ps with
    | nil => intro u h; exact h
    | cons p ps ih => intro u h; exact ih _ (upd1_s7 (upd1_s7 h _ _) _ _)
  exact this ps _ fun t => Set7.zero
theorem mem_upd1 {u : Nat → Nat → Nat} (a b t s : Nat) : mem (upd1 u a b t) s = (mem (u t) s || (decide (t = a) && decide (s = b))) := by
  unfold upd1
  by_cases h : t = a
  · rw [if_pos h, mem_ins]; simp [h]
  · rw [if_neg h]; simp [h]
theorem mem_unS (ps : List (Int × Int)) (t s : Nat) : mem (unS ps t) s = true ↔ ∃ p ∈ ps, (t = p.1.toNat ∧ s = p.2.toNat) ∨ (t = p.2.toNat ∧ s = p.1.toNat) := by
  unfold unS
  have : ∀ (ps : List (Int × Int)) (u : Nat → Nat → Nat), mem (ps.foldl addP u t) s = true ↔ mem (u t) s = true ∨ ∃ p ∈ ps, (t = p.1.toNat ∧ s = p.2.toNat) ∨ (t = p.2.toNat ∧ s = p.1.toNat) := by
    intro ps
    induction ps with
    | nil => intro u; simp
    | cons p ps ih =>
      intro u
      rw [List.foldl_cons, ih]
      unfold addP
      rw [mem_upd1, mem_upd1]
      simp only [Bool.or_eq_true, Bool.and_eq_true, decide_eq_true_eq, List.mem_cons, exists_eq_or_imp]
      constructor
      · rintro (((h | h) | h) | h)
        · exact .inl h
        · exact .inr (.inl (.inl h))
        · exact .inr (.inl (.inr h))
        · exact .inr (.inr h)
      · rintro (h | (h | h) | h)
        · exact .inl (.inl (.inl h))
        · exact .inl (.inl (.inr h))
        · exact .inl (.inr h)
        · exact .inr h
  rw [this, mem_zero]
  simp
/-- A temp finds its place. -/
def step1 (ks : List Int) (u : Nat → Nat → Nat) (s : List Int × Int) (t : Nat) : List Int × Int := (s.1.set t (freeF s.1 (els (u t)) (decide ((t : Int) ∈ ks))), max s.2 (freeF s.1 (els (u t)) (decide ((t : Int) ∈ ks)) - 7))
def findF (ks : List Int) (u : Nat → Nat → Nat) (T : Nat) (ord : List Nat) : List Int × Int := ord.foldl (step1 ks u) (List.replicate T 0, 0)
theorem findF_take (ks : List Int) (u : Nat → Nat → Nat) (T : Nat) {ord : List Nat} {k t : Nat} (h : ord[k]? = some t) : findF ks u T (ord.take (k + 1)) = step1 ks u (findF ks u T (ord.take k)) t := by
  unfold findF
  rw [List.take_add_one, h, List.foldl_append]
  rfl
/-- What is so of the places of the first so many. -/
structure PI (ks : List Int) (u : Nat → Nat → Nat) (T : Nat) (don : List Nat) (s : List Int × Int) : Prop where
  len : s.1.length = T
  s0 : 0 ≤ s.2
  sk : s.2 ≤ don.length
  none : ∀ t, t ∉ don → wAt s.1 (t : Int) = 0
  ok : ∀ t : Nat, t ∈ don → (1 ≤ wAt s.1 t ∧ wAt s.1 t ≤ 4 ∧ (t : Int) ∉ ks) ∨ (8 ≤ wAt s.1 t ∧ wAt s.1 t < 8 + s.2)
  ap : ∀ t o : Nat, t ∈ don → o ∈ don → t ≠ o → mem (u t) o = true → wAt s.1 t ≠ wAt s.1 o
theorem PI.low {ks : List Int} {u : Nat → Nat → Nat} {T : Nat} {don : List Nat} {s : List Int × Int} (h : PI ks u T don s) : ∀ o : Int, wAt s.1 o < 8 + s.2 := fun o => by
  have h0 := h.s0
  have e : wAt s.1 o = wAt s.1 ((o.toNat : Nat) : Int) := by unfold wAt; rw [Int.toNat_natCast]
  rw [e]
  by_cases hd : o.toNat ∈ don
  · rcases h.ok _ hd with h1 | h1 <;> omega
  · rw [h.none _ hd]; omega
theorem wAt_set {ws : List Int} {t : Nat} (ht : t < ws.length) (p : Int) (o : Nat) : wAt (ws.set t p) (o : Int) = if o = t then p else wAt ws (o : Int) := by
  unfold wAt
  rw [Int.toNat_natCast]
  by_cases h : o = t
  · subst h; rw [if_pos rfl]; simp [List.getD, ht]
  · rw [if_neg h]; simp [List.getD, List.getElem?_set, Ne.symm h]
theorem PI.step {ks : List Int} {u : Nat → Nat → Nat} {T : Nat} {don : List Nat} {s : List Int × Int} (h : PI ks u T don s) (hs : ∀ t o : Nat, mem (u t) o = true → mem (u o) t = true) {t : Nat} (ht : t < T) (hd : t ∉ don) (hn : don.length < 400) (hin : ∀ o ∈ don, o < 448) : PI ks u T (don ++ [t]) (step1 ks u s t) := by
  have h0 := h.s0
  have hk := h.sk
  obtain ⟨hrej, hle, hkk, hval⟩ := free_spec (us := els (u t)) (decide ((t : Int) ∈ ks)) h.s0 (by omega) h.low
  obtain ⟨p, hp⟩ : ∃ p, freeF s.1 (els (u t)) (decide ((t : Int) ∈ ks)) = p := ⟨_, rfl⟩
  unfold step1
  rw [hp] at hrej hle hkk hval ⊢
  have hset : ∀ o : Nat, wAt (s.1.set t p) (o : Int) = if o = t then p else wAt s.1 (o : Int) := fun o => wAt_set (by rw [h.len]; exact ht) p o
  have hfree : ∀ o : Nat, o < 448 → mem (u t) o = true → wAt s.1 (o : Int) ≠ p := fun o ho hm e => by
    have : rej s.1 (els (u t)) p = true := by
      unfold rej
      rw [List.any_eq_true]
      exact ⟨(o : Int), mem_els.2 ⟨o, rfl, ho, hm⟩, by simp [e]⟩
    rw [this] at hrej
    cases hrej
  refine ⟨by simp [h.len], by simp only; omega, by rw [List.length_append, List.length_singleton]; simp only; omega, fun o ho => ?_, fun o ho => ?_, fun a b ha hb hab hm => ?_⟩
  · rw [List.mem_append, List.mem_singleton] at ho
    simp only
    rw [hset, if_neg (fun e => ho (.inr e))]
    exact h.none o (fun e => ho (.inl e))
  · simp only
    rw [hset]
    by_cases e : o = t
    · subst e
      rw [if_pos rfl]
      by_cases hks : (o : Int) ∈ ks
      · have := hkk (by simp [hks])
        exact .inr (by omega)
      · rcases hval with hv | hv
        · exact .inl ⟨hv.1, hv.2, hks⟩
        · exact .inr (by omega)
    · rw [if_neg e]
      rw [List.mem_append, List.mem_singleton] at ho
      rcases h.ok o (ho.resolve_right e) with h1 | h1
      · exact .inl h1
      · exact .inr (by omega)
  · simp only
    rw [hset, hset]
    rw [List.mem_append, List.mem_singleton] at ha hb
    by_cases e1 : a = t
    · subst e1
      rw [if_pos rfl, if_neg (Ne.symm hab)]
      have hb2 := hb.resolve_right (Ne.symm hab)
      exact (hfree b (hin b hb2) hm).symm
    · rw [if_neg e1]
      by_cases e2 : b = t
      · subst e2
        rw [if_pos rfl]
        exact hfree a (hin a (ha.resolve_right e1)) (hs _ _ hm)
      · rw [if_neg e2]
        exact h.ap a b (ha.resolve_right e1) (hb.resolve_right e2) hab hm
theorem PI.start (ks : List Int) (u : Nat → Nat → Nat) (T : Nat) : PI ks u T [] (List.replicate T 0, 0) :=
  ⟨by simp, by simp, by simp, fun t _ => by unfold wAt; rw [Int.toNat_natCast]; simp only [List.getD, List.getElem?_replicate]; split <;> rfl, (fun t ht => by cases ht), (fun t o ht => by cases ht)⟩
theorem PI.all {ks : List Int} {u : Nat → Nat → Nat} {T : Nat} (hs : ∀ t o : Nat, mem (u t) o = true → mem (u o) t = true) {ord : List Nat} (hT : ord.length ≤ 400) (hin : ∀ t ∈ ord, t < T) (hT2 : T ≤ 400) (hd : ord.Nodup) : ∀ k, k ≤ ord.length → PI ks u T (ord.take k) (findF ks u T (ord.take k)) := by
  intro k
  induction k with
  | zero => intro _; rw [List.take_zero]; exact PI.start ks u T
  | succ k ih =>
    intro hk
    have hlt : k < ord.length := by omega
    have hg : ord[k]? = some ord[k] := List.getElem?_eq_getElem hlt
    rw [findF_take ks u T hg]
    have := (ih (by omega)).step hs (t := ord[k]) (hin _ (List.getElem_mem hlt)) (fun hc => ?_) (by rw [List.length_take]; omega) (fun o ho => by have := hin o (List.mem_of_mem_take ho); omega)
    · rw [List.take_add_one, hg]
      exact this
    · obtain ⟨i, hi, e⟩ := List.mem_iff_getElem.1 hc
      rw [List.length_take] at hi
      rw [List.getElem_take] at e
      exact (List.pairwise_iff_getElem.1 hd) i k (by omega) hlt (by omega) e
/-- How often each temp is used: all that is written and read, one after the other. -/
def usesL (f : Fn) (k : Nat) : List Int := (List.range k).flatMap fun i => (if wr (at_ f i) = -1 then [] else [wr (at_ f i)]) ++ rd (at_ f i)
theorem usesL_succ (f : Fn) (k : Nat) : usesL f (k + 1) = (usesL f k ++ (if wr (at_ f k) = -1 then [] else [wr (at_ f k)])) ++ rd (at_ f k) := by
  unfold usesL
  rw [List.range_succ, List.flatMap_append]
  simp
def rk0 (l : List Int) (T : Nat) : List Rk := (List.range T).map fun t : Nat => ⟨(l.count (t : Int) : Nat), (t : Int)⟩
def rks (f : Fn) : List Rk := (rk0 (usesL f f.code.length) f.temps.toNat).mergeSort rkLe
def ord (f : Fn) : List Nat := (rks f).map fun r => r.temp.toNat
theorem ord_perm (f : Fn) : (ord f).Perm (List.range f.temps.toNat) := by
  unfold ord rks
  refine ((List.mergeSort_perm _ _).map _).trans ?_
  unfold rk0
  rw [List.map_map]
  have e : ((fun r : Rk => r.temp.toNat) ∘ fun t : Nat => (⟨((usesL f f.code.length).count (t : Int) : Nat), (t : Int)⟩ : Rk)) = id := by
    funext t
    simp
  rw [e, List.map_id]
/-- What Alloc finds. -/
def alc (f : Fn) (U : Nat → Nat → Nat) (n : Nat) : List Int × Int := findF (els (keptS f U n)) (unS (doneP f U n)) f.temps.toNat (ord f)
theorem els_ext {u v : Nat → Nat} (h : ∀ t : Int, t ∈ els u ↔ t ∈ els v) : els u = els v := by
  unfold els
  congr 1
  refine List.filter_congr fun t ht => ?_
  have ht := List.mem_range.1 ht
  have key : ∀ w : Nat → Nat, mem w t = true ↔ ((t : Nat) : Int) ∈ els w := fun w => by
    rw [mem_els]
    constructor
    · intro h; exact ⟨t, rfl, ht, h⟩
    · rintro ⟨k, e, _, h⟩
      rwa [show t = k by omega]
  rw [Bool.eq_iff_iff, key u, key v, h]
/-- It hangs on the function alone. -/
theorem alc_same {f : Fn} {n m : Nat} {U V : Nat → Nat → Nat} (hu : LfU f n U) (hv : LfU f m V) : alc f U n = alc f V m := by
  have hnm : n = m := by rw [← hu.cnt, ← hv.cnt]
  subst hnm
  have e1 : els (keptS f U n) = els (keptS f V n) := els_ext fun t => by rw [live_kept hu, live_kept hv]
  have e2 : doneP f U n = doneP f V n := by
    unfold doneP
    have e3 : els (insAll (U 0) (upto f.params)) = els (insAll (V 0) (upto f.params)) := els_ext fun t => by rw [live_first hu, live_first hv]
    rw [e3]
    congr 1
    rw [List.flatMap_def, List.flatMap_def]
    refine congrArg List.flatten (List.map_congr_left fun i hi => ?_)
    have hi := List.mem_range.1 hi
    unfold behP
    have e4 : els (orAll U (nxt (at_ f i) i)) = els (orAll V (nxt (at_ f i) i)) := els_ext fun t => by rw [live_beh hu hi, live_beh hv hi]
    rw [e4]
  unfold alc
  rw [e1, e2]
/-- It is right. -/
theorem alc_right {f : Fn} {n : Nat} {U : Nat → Nat → Nat} (hu : LfU f n U) : (alc f U n).1.length = f.temps.toNat ∧ 0 ≤ (alc f U n).2 ∧ (alc f U n).2 ≤ 400 ∧ arePl f.temps (alc f U n).1 (alc f U n).1.length (alc f U n).2 = true ∧ areP f (alc f U n).1 := by
  have hh := may_head hu.may
  have hsym : ∀ t o : Nat, mem (unS (doneP f U n) t) o = true → mem (unS (doneP f U n) o) t = true := fun t o h => by
    rw [mem_unS] at h ⊢
    obtain ⟨p, hp, h⟩ := h
    exact ⟨p, hp, h.elim (fun h => .inr ⟨h.2, h.1⟩) (fun h => .inl ⟨h.2, h.1⟩)⟩
  have hlen : (ord f).length = f.temps.toNat := by rw [(ord_perm f).length_eq, List.length_range]
  have hmem : ∀ t, t ∈ ord f ↔ t < f.temps.toNat := fun t => by rw [(ord_perm f).mem_iff, List.mem_range]
  have hPI := PI.all (ks := els (keptS f U n)) hsym (ord := ord f) (T := f.temps.toNat) (by omega) (fun t ht => (hmem t).1 ht) (by omega) ((ord_perm f).nodup_iff.2 List.nodup_range) (ord f).length (Nat.le_refl _)
  rw [List.take_length] at hPI
  change PI _ _ _ _ (alc f U n) at hPI
  have h0 := hPI.s0
  have hk := hPI.sk
  have hl := hPI.len
  refine ⟨hl, h0, by omega, ?_, ?_⟩
  · unfold arePl
    rw [Bool.and_eq_true, Bool.and_eq_true, Bool.and_eq_true, decide_eq_true_eq, decide_eq_true_eq, decide_eq_true_eq]
    refine ⟨by omega, h0, by omega, all_range_yes fun t ht => ?_⟩
    have := hPI.ok t ((hmem t).2 (by omega))
    unfold placeOk
    simp only [Bool.or_eq_true, Bool.and_eq_true, decide_eq_true_eq]
    omega
  · rw [← areR_iff hu]
    unfold areR
    rw [Bool.and_eq_true, List.all_eq_true, List.all_eq_true]
    constructor
    · intro t ht
      have hin := kept_in hu ht
      have e : ((t.toNat : Nat) : Int) = t := by omega
      have := hPI.ok t.toNat ((hmem _).2 (by omega))
      rw [e] at this
      unfold isReg
      rcases this with h | h
      · exact absurd ht h.2.2
      · simp only [Bool.not_eq_true', Bool.and_eq_false_iff, decide_eq_false_iff_not]
        omega
    · rintro ⟨p, q⟩ hp
      have hin := pair_in hu hp
      simp only at hin
      have hne : p ≠ q := by
        rcases mem_doneP.1 hp with h | ⟨i, hi, h⟩
        · have := (mem_pairsF.1 h).2.2
          simp only at this
          omega
        · obtain ⟨_, g2, _, g4, _⟩ := mem_behP.1 h
          simp only at g2 g4
          omega
      have ep : ((p.toNat : Nat) : Int) = p := by omega
      have eq : ((q.toNat : Nat) : Int) = q := by omega
      have := hPI.ap p.toNat q.toNat ((hmem _).2 (by omega)) ((hmem _).2 (by omega)) (by omega) ((mem_unS _ _ _).2 ⟨(p, q), hp, .inl ⟨rfl, rfl⟩⟩)
      rw [ep, eq] at this
      simpa using this
theorem alc_chk {f : Fn} {n : Nat} {U : Nat → Nat → Nat} (hu : LfU f n U) : chk f (alc f U n).1 (alc f U n).1.length (alc f U n).2 = true := by
  obtain ⟨_, _, _, h1, h2⟩ := alc_right hu
  unfold chk
  rw [hu.may, h1, Bool.true_and, Bool.true_and]
  simp [h2]
end F
end Go.Proofs.YtljgpngbkmembaaDoor

/- A table of lists of one's own. No walk. -/
namespace Go.Proofs.YtljgpngbkmembaaDoor
open Go.RowKit Go.Maps
set_option linter.unusedVariables false
set_option linter.unusedSimpArgs false
theorem infoLi2 : (Tryd.prog.info? 30).map (fun i => (i.zero, i.size, i.bytes)) = some (some (.slice none 0 0), 1, 24) := by kernel_rfl
set_option maxRecDepth 100000 in
theorem makeLs (w : World) (N : Nat) (hN : N ≤ 65536) :
    (Instr.makeSlice 29 (.int .i64 N) (.int .i64 N)).run Tryd.prog w = .ok (.slice (some ⟨w.heap.size, 0, none⟩) N N) (w.alloc (.cells (List.replicate N (.slice none 0 0)).toArray 30)) := by
  obtain ⟨i, hi, h0, h1, h2⟩ := ainfo infoLi2
  have := run_make (P := Tryd.prog) w 29 30 i (.slice none 0 0) Tryd.underlying29 hi h0 .i64 .i64 N N (by omega) (by omega) (by rw [h2]; omega) (by omega)
  rw [this, h1, Int.toNat_natCast]
  congr 3
  unfold madeCells
  apply Array.ext
  · simp
  · intro i h1 h2
    simp [Value.cells, Nat.mod_one]
/-- A table of lists of one's own, its first rows laid. -/
structure LT (B : Nat) (W : World) (g n k : Nat) (ls : Nat → List Int) : Prop where
  ge : B ≤ g
  lt : g < W.heap.size
  fro : ∀ j, W.frozen? ⟨g, j, none⟩ = false
  slot : ∀ i, i < n → ∃ u, W.cell? ⟨g, i, none⟩ = some u
  rows : ∀ i, i < k → ∃ ai ci, W.cell? ⟨g, i, none⟩ = some (.slice ai (ls i).length ci) ∧ NumV W ai (ls i).length ci (ls i) ∧ ∀ p, ai = some p → g ≠ p.block
variable {B : Nat} {W y : World} {g n k : Nat} {ls : Nat → List Int}
theorem LT.below (h : LT B W g n k ls) (hb : Below W.heap.size W y) : LT B y g n k ls :=
  ⟨h.ge, Nat.lt_of_lt_of_le h.lt hb.size, fun j => (hb.frozen (p := ⟨g, j, none⟩) h.lt).trans (h.fro j), fun i hi => by obtain ⟨u, hu⟩ := h.slot i hi; exact ⟨u, cell_thru hb hu⟩, fun i hi => by
    obtain ⟨ai, ci, h1, h2, h3⟩ := h.rows i hi
    exact ⟨ai, ci, cell_thru hb h1, h2.below hb, h3⟩⟩
theorem LT.start (w : World) (N : Nat) (ls : Nat → List Int) : LT w.heap.size (w.alloc (.cells (List.replicate N (.slice none 0 0)).toArray 30)) w.heap.size N 0 ls :=
  ⟨Nat.le_refl _, by simp, fun j => World.frozen?_alloc_at _ _ _ _ (by simp), fun i hi => ⟨.slice none 0 0, ncell_at (by simp [hi])⟩, fun i hi => by omega⟩
/-- A row more. -/
theorem LT.row (h : LT B W g n k ls) (hk : k < n) {ai : Option Addr} {l ci : Nat} (hl : (ls k).length = l) (hn : NumV W ai l ci (ls k)) (hf : ∀ p, ai = some p → g ≠ p.block) : LT B (W.setCell ⟨g, k, none⟩ (.slice ai l ci)) g n (k + 1) ls := by
  obtain ⟨u0, hu0⟩ := h.slot k hk
  have near : ∀ i, i ≠ k → (W.setCell ⟨g, k, none⟩ (.slice ai l ci)).cell? ⟨g, i, none⟩ = W.cell? ⟨g, i, none⟩ := fun i hi => World.cell?_setCell_other _ _ _ _ (by first | (simp; done) | (simp; exact fun e => absurd e.symm hi))
  refine ⟨h.ge, by rw [World.size_setCell]; exact h.lt, fun j => by rw [World.frozen?_setCell]; exact h.fro j, fun i hi => ?_, fun i hi => ?_⟩
  · by_cases e : i = k
    · subst e; exact ⟨_, World.cell?_setCell_same' _ _ _ (by rw [hu0]; rfl)⟩
    · obtain ⟨u, hu⟩ := h.slot i hi
      exact ⟨u, (near i e).trans hu⟩
  · by_cases e : i = k
    · subst e
      exact ⟨ai, ci, by rw [hl]; exact World.cell?_setCell_same' _ _ _ (by rw [hu0]; rfl), by rw [hl]; exact hn.far hf _, hf⟩
    · obtain ⟨aj, cj, h1, h2, h3⟩ := h.rows i (by omega)
      exact ⟨aj, cj, (near i e).trans h1, h2.far h3 _, h3⟩
theorem LT.view (h : LT B W g n n ls) (hn : n ≤ 65536) : LsV W (some ⟨g, 0, none⟩) n n ((List.range n).map ls) := by
  refine ⟨by simp, ⟨Nat.le_refl _, by unfold maxLen; omega⟩, .inr ⟨g, 0, rfl, fun i hi => ?_⟩⟩
  obtain ⟨ai, ci, h1, h2, h3⟩ := h.rows i hi
  have e : ((List.range n).map ls).getD i [] = ls i := by simp [List.getD, hi]
  rw [e]
  exact ⟨ai, ci, by rw [Nat.zero_add]; exact h1, h2⟩
end Go.Proofs.YtljgpngbkmembaaDoor

/- The program's Live: what its sets are as lists. No walk. -/
namespace Go.Proofs.YtljgpngbkmembaaDoor
open Go.RowKit Go.Maps Go.Shelf
set_option linter.unusedVariables false
set_option linter.unusedSimpArgs false
namespace F
theorem els_range {u : Nat → Nat} {T : Nat} {q : Nat → Bool} (hT : T ≤ 448) (h1 : ∀ t, t < T → mem u t = q t) (h2 : ∀ t, T ≤ t → t < 448 → mem u t = false) : els u = ((List.range T).filter q).map Int.ofNat := by
  unfold els
  congr 1
  rw [show (448 : Nat) = T + (448 - T) by omega, List.range_add, List.filter_append]
  have e2 : ((List.range (448 - T)).map fun x => T + x).filter (mem u) = [] := by
    rw [List.filter_eq_nil_iff]
    intro t ht
    obtain ⟨k, hk, rfl⟩ := List.mem_map.1 ht
    have := List.mem_range.1 hk
    simp [h2 (T + k) (by omega) (by omega)]
  rw [e2, List.append_nil]
  exact List.filter_congr fun t ht => h1 t (List.mem_range.1 ht)
theorem els_outs {f : Fn} {n : Nat} {U : Nat → Nat → Nat} (hu : LfU f n U) {tab : Nat → Nat → Bool} (htab : ∀ i t, tab i t = true ↔ Lv f i t) {i : Nat} (hi : i < n) : els (orAll U (nxt (at_ f i) i)) = outs f tab i f.temps.toNat := by
  have hh := may_head hu.may
  have key : ∀ t : Nat, t < 448 → (mem (orAll U (nxt (at_ f i) i)) t = true ↔ ((t : Nat) : Int) ∈ els (orAll U (nxt (at_ f i) i))) := fun t ht => by
    rw [mem_els]
    constructor
    · intro h; exact ⟨t, rfl, ht, h⟩
    · rintro ⟨k, e, _, h⟩
      rwa [show t = k by omega]
  unfold outs
  refine els_range (by omega) (fun t ht => ?_) (fun t h1 h2 => ?_)
  · rw [Bool.eq_iff_iff, key t (by omega), live_beh hu hi, ← mem_outs hu.may htab]
    unfold outs
    rw [List.mem_map]
    constructor
    · rintro ⟨k, hk, e⟩
      have e' : k = t := Int.ofNat.inj e
      rw [← e']
      exact (List.mem_filter.1 hk).2
    · intro h
      exact ⟨t, List.mem_filter.2 ⟨List.mem_range.2 ht, h⟩, rfl⟩
  · rw [← Bool.not_eq_true, key t h2, live_beh hu hi]
    rintro ⟨j, hj, hl⟩
    have := Lv.temp hu.may hl
    omega
theorem els_firsts {f : Fn} {n : Nat} {U : Nat → Nat → Nat} (hu : LfU f n U) {tab : Nat → Nat → Bool} (htab : ∀ i t, tab i t = true ↔ Lv f i t) : els (U 0) = firsts tab f.temps.toNat := by
  have hh := may_head hu.may
  have hn : 0 < n := by have := hu.cnt; omega
  unfold firsts
  refine els_range (by omega) (fun t ht => ?_) (fun t h1 h2 => ?_)
  · rw [Bool.eq_iff_iff, hu.lv 0 hn t (by omega), htab]
  · rw [← Bool.not_eq_true, hu.lv 0 hn t h2]
    intro hl
    have := Lv.temp hu.may hl
    omega
end F
end Go.Proofs.YtljgpngbkmembaaDoor

/- The sum of two numbers, printed: what is live in it, and which places are right. No walk. -/
namespace Go.Proofs.YtljgpngbkmembaaDoor
open Go.RowKit Go.Maps Go.Shelf
set_option linter.unusedVariables false
set_option linter.unusedSimpArgs false
namespace F
def em : ByteArray := { data := #[] }
def sumC : List Op := [⟨1, 0, em, 0, 0, 0, 2, [], 0⟩, ⟨1, 0, em, 1, 0, 0, 3, [], 0⟩, ⟨3, 3, em, 2, 0, 1, 0, [], 0⟩, ⟨13, 0, em, 0, 2, 0, 0, [], 0⟩, ⟨15, 0, em, 0, 0, 0, 0, [], 0⟩]
def sumF : Fn := ⟨{ data := #[116] }, 0, 3, sumC⟩
def sumT (i : Nat) (t : Int) : Bool := (decide (i = 1) && decide (t = 0)) || ((decide (i = 2) && (decide (t = 0) || decide (t = 1))) || (decide (i = 3) && decide (t = 2)))
theorem sum_may : mayF sumF = true := by decide +kernel
theorem sum_code : sumF.code.length = 5 := rfl
theorem sum_lv {i : Nat} {t : Int} : sumT i t = true ↔ Lv sumF i t := by
  constructor
  · intro h
    have l3 : Lv sumF 3 2 := .rd (by decide) (by decide)
    have l20 : Lv sumF 2 0 := .rd (by decide) (by decide)
    have l21 : Lv sumF 2 1 := .rd (by decide) (by decide)
    have l10 : Lv sumF 1 0 := .on (j := 2) (by decide) (by decide) (by decide) l20
    unfold sumT at h
    simp only [Bool.or_eq_true, Bool.and_eq_true, decide_eq_true_eq] at h
    rcases h with ⟨rfl, rfl⟩ | ⟨rfl, rfl | rfl⟩ | ⟨rfl, rfl⟩
    · exact l10
    · exact l20
    · exact l21
    · exact l3
  · intro h
    refine Lv.within (f := sumF) (m := fun i t => sumT i t = true) (fun i t hi ht => ?_) (fun i j t hi hj hw hm => ?_) h
    · rw [sum_code] at hi
      rcases (show i = 0 ∨ i = 1 ∨ i = 2 ∨ i = 3 ∨ i = 4 by omega) with rfl | rfl | rfl | rfl | rfl
      · exact absurd ht (by have e : rd (at_ sumF 0) = [] := by decide
                            rw [e]; simp)
      · exact absurd ht (by have e : rd (at_ sumF 1) = [] := by decide
                            rw [e]; simp)
      · have e : rd (at_ sumF 2) = [0, 1] := by decide
        rw [e] at ht
        simp only [List.mem_cons, List.not_mem_nil, or_false] at ht
        rcases ht with rfl | rfl <;> rfl
      · have e : rd (at_ sumF 3) = [2] := by decide
        rw [e] at ht
        simp only [List.mem_cons, List.not_mem_nil, or_false] at ht
        subst ht
        rfl
      · exact absurd ht (by have e : rd (at_ sumF 4) = [] := by decide
                            rw [e]; simp)
    · rw [sum_code] at hi
      rcases (show i = 0 ∨ i = 1 ∨ i = 2 ∨ i = 3 ∨ i = 4 by omega) with rfl | rfl | rfl | rfl | rfl
      · have e : nxt (at_ sumF 0) 0 = [1] := by decide
        have e2 : wr (at_ sumF 0) = 0 := by decide
        rw [e] at hj
        rw [e2] at hw
        simp only [List.mem_cons, List.not_mem_nil, or_false] at hj
        subst hj
        unfold sumT at hm ⊢
        simp at hm
        exact absurd hm hw
      · have e : nxt (at_ sumF 1) 1 = [2] := by decide
        have e2 : wr (at_ sumF 1) = 1 := by decide
        rw [e] at hj
        rw [e2] at hw
        simp only [List.mem_cons, List.not_mem_nil, or_false] at hj
        subst hj
        unfold sumT at hm ⊢
        simp at hm ⊢
        exact hm.resolve_right hw
      · have e : nxt (at_ sumF 2) 2 = [3] := by decide
        have e2 : wr (at_ sumF 2) = 2 := by decide
        rw [e] at hj
        rw [e2] at hw
        simp only [List.mem_cons, List.not_mem_nil, or_false] at hj
        subst hj
        unfold sumT at hm ⊢
        simp at hm
        exact absurd hm hw
      · have e : nxt (at_ sumF 3) 3 = [4] := by decide
        rw [e] at hj
        simp only [List.mem_cons, List.not_mem_nil, or_false] at hj
        subst hj
        unfold sumT at hm
        simp at hm
      · exact absurd hj (by have e : nxt (at_ sumF 4) 4 = [] := by decide
                            rw [e]; simp)
def sumTab : Nat → Nat → Bool := fun i t => sumT i (t : Int)
theorem sum_tab : ∀ i t, sumTab i t = true ↔ Lv sumF i (t : Int) := fun i t => sum_lv
theorem sum_firsts : firsts sumTab sumF.temps.toNat = [] := by decide +kernel
theorem sum_outs : ((List.range 5).map fun i => outs sumF sumTab i sumF.temps.toNat) = [[0], [0, 1], [2], [], []] := by decide +kernel
theorem sum_bad : chk sumF [1, 1, 1] 3 0 = false := (chk_right sum_tab [1, 1, 1] 0).trans (by decide +kernel)
theorem sum_good : chk sumF [1, 2, 1] 3 0 = true := (chk_right sum_tab [1, 2, 1] 0).trans (by decide +kernel)
theorem alc_right_tab {f : Fn} {n : Nat} {U : Nat → Nat → Nat} (hu : LfU f n U) {tab : Nat → Nat → Bool} (htab : ∀ i t, tab i t = true ↔ Lv f i t) : rightB f tab (alc f U n).1 (alc f U n).2 = true := by
  rw [← chk_right htab]
  exact alc_chk hu
end F
end Go.Proofs.YtljgpngbkmembaaDoor

/- The law's sum. -/
namespace Go.Proofs.YtljgpngbkmembaaDoor
open Go.RowKit Go.Maps Go.Shelf
set_option linter.unusedVariables false
set_option linter.unusedSimpArgs false
def SumOut (w : World) (e : Ending) (W : World) : Prop := ∃ g, e = .returned (fnV F.sumF (some ⟨g, 0, none⟩) 5 5) ∧ OpsV W (some ⟨g, 0, none⟩) 5 5 F.sumF.code ∧ Below w.heap.size w W
set_option maxRecDepth 100000 in
set_option maxHeartbeats 8000000 in
theorem sum_any (w : World) : Calls Tryd.prog 20 #[] w (SumOut w) := by
  go_enter Tryd.func20, Tryd.ntmps20
  go_wp2_with fail
  obtain ⟨g, hg⟩ : ∃ g, w.heap.size + 1 = g := ⟨_, rfl⟩
  refine bodyPost_ret (v := fnV F.sumF (some ⟨g, 0, none⟩) 5 5) ?_ rfl ?_
  · rw [← hg]
    simp [results, Tryd.results20, go_sem, fnV, F.sumF]
  · refine ⟨g, rfl, ⟨rfl, by unfold F.sumF F.sumC OpFit F.em; decide +kernel, fun e => (by cases e), ⟨Nat.le_refl _, by decide⟩, .inr ⟨g, 0, rfl, fun i hi => ?_⟩⟩, (bl1 _ _).alloc (by simp) _⟩
    rw [← hg]
    rcases (show i = 0 ∨ i = 1 ∨ i = 2 ∨ i = 3 ∨ i = 4 by omega) with rfl | rfl | rfl | rfl | rfl <;>
      exact ⟨⟨none, 0, 0⟩, ⟨at3 rfl, at3 rfl, at3 rfl, at3 rfl, at3 rfl, at3 rfl, at3 rfl, at3 rfl, at3 rfl⟩, NumV.nil _⟩
end Go.Proofs.YtljgpngbkmembaaDoor

/- The program's mayDo: may an operation be? -/
namespace Go.Proofs.YtljgpngbkmembaaDoor
open Go.RowKit Go.Maps
set_option linter.unusedVariables false
set_option linter.unusedSimpArgs false
theorem F.opOk_sh {T L : Int} {x : F.Op} {k : Nat} (hk : k < 17) (h1 : 1 ≤ k) (hx : x.op = (k : Int)) : F.opOk T L x = (F.stand T (F.sh k).d x.d && (F.stand T (F.sh k).a x.a && (F.stand T (F.sh k).b x.b && ((!(F.sh k).args || x.args.all (F.inT T)) && ((!(F.sh k).what || (decide (3 ≤ x.what) && decide (x.what ≤ 16))) && ((!(F.sh k).dest || F.inT L x.dest) && (!decide ((k : Int) = 16) || (decide (1 ≤ x.n) && decide (x.n ≤ 127))))))))) := by
  unfold F.opOk F.stand F.orNo
  rw [hx]
  generalize F.inT T x.d = D
  generalize F.inT T x.a = A
  generalize F.inT T x.b = B
  generalize F.inT L x.dest = X
  generalize x.args.all (F.inT T) = R
  generalize (decide (3 ≤ x.what) && decide (x.what ≤ 16)) = Z
  generalize (decide (1 ≤ x.n) && decide (x.n ≤ 127)) = Y
  generalize decide (x.a = -1) = u
  generalize decide (x.d = -1) = v
  generalize decide (x.b = -1) = s9
  clear hx
  rcases F.cases17 hk with rfl | rfl | rfl | rfl | rfl | rfl | rfl | rfl | rfl | rfl | rfl | rfl | rfl | rfl | rfl | rfl | rfl
  · omega
  all_goals
    simp [F.sh] <;> cases D <;> cases A <;> cases B <;> cases u <;> cases v <;> simp
theorem at1 {w : World} {o : Obj} {cs : Array Value} {t : TypeId} {j : Nat} {u : Value} (h : cs[j]? = some u) : ((w.alloc o).alloc (.cells cs t)).cell? ⟨w.heap.size + 1, j, none⟩ = some u := by
  have := ncell_at (w := w.alloc o) (t := t) h
  rwa [World.size_alloc] at this
set_option maxRecDepth 100000 in
set_option maxHeartbeats 16000000 in
theorem mayDo_any {w : World} {f : F.Fn} {a : Option Addr} {l c : Nat} (x : F.Op) (r : Ar) (hrm : l ≤ c ∧ c ≤ maxLen) (ha : NumV w r.a r.l r.c x.args) (ht : Shp w) : Calls Tryd.prog 37 #[fnV f a l c, opV x r] w fun e w' => e = .returned (.bool (F.opOk f.temps l x)) ∧ Below w.heap.size w w' := by
  have hmax : maxLen = 9223372036854775807 := rfl
  by_cases hk : 1 ≤ x.op ∧ x.op ≤ 16
  · obtain ⟨k, hx⟩ : ∃ k : Nat, x.op = (k : Int) := ⟨x.op.toNat, by omega⟩
    have hk1 : 1 ≤ k := by omega
    have hk17 : k < 17 := by omega
    have HR : Hid _ := F.opOk_sh (T := f.temps) (L := (l : Int)) hk17 hk1 hx
    have HST : Hid (∀ kind t y, Calls Tryd.prog 54 #[fnV f a l c, .int .i64 kind, .int .i64 t] y fun e w' => e = .returned (.bool (F.stand f.temps kind t)) ∧ Below y.heap.size y w') := fun kind t y => mayStand_any f a l c kind t y
    have HAT : Hid (∀ y, Below w.heap.size w y → Calls Tryd.prog 55 #[fnV f a l c, .slice r.a r.l r.c] y fun e w' => e = .returned (.bool (x.args.all (F.inT f.temps))) ∧ Below y.heap.size y w') := fun y hy => areTemps_any f a l c y (ha.below hy)
    obtain ⟨R, hR⟩ : ∃ R, F.opOk f.temps l x = R := ⟨_, rfl⟩
    rw [hR] at HR ⊢
    clear hR
    obtain ⟨nm0, params, T, code⟩ := f
    obtain ⟨op, what, nm, d, aa, bb, n, args, dest⟩ := x
    obtain ⟨ra, rl, rc⟩ := r
    unfold fnV at HST HAT ⊢
    unfold opV
    simp only at hx HR HST HAT ha ⊢
    subst hx
    have har := ha.room
    clear ha hk
    obtain ⟨W1, hW1⟩ : ∃ W1, (w.alloc (.cells #[.string nm0, .int .i64 params, .int .i64 T, .slice a l c] 24)).alloc (.cells #[.int .i64 (k : Int), .int .i64 what, .string nm, .int .i64 d, .int .i64 aa, .int .i64 bb, .int .i64 n, .slice ra rl rc, .int .i64 dest] 46) = W1 := ⟨_, rfl⟩
    have HB1 : Hid (Below w.heap.size w W1) := by show Below _ _ _; rw [← hW1]; exact (bl1 _ _).alloc (by simp) _
    have f0 : W1.cell? ⟨w.heap.size, 0, none⟩ = some (.string nm0) := by rw [← hW1]; exact cell_thru (bl1 _ _) (ncell_at rfl)
    have f1 : W1.cell? ⟨w.heap.size, 1, none⟩ = some (.int .i64 params) := by rw [← hW1]; exact cell_thru (bl1 _ _) (ncell_at rfl)
    have f2 : W1.cell? ⟨w.heap.size, 2, none⟩ = some (.int .i64 T) := by rw [← hW1]; exact cell_thru (bl1 _ _) (ncell_at rfl)
    have f3 : W1.cell? ⟨w.heap.size, 3, none⟩ = some (.slice a l c) := by rw [← hW1]; exact cell_thru (bl1 _ _) (ncell_at rfl)
    have o0 : W1.cell? ⟨w.heap.size + 1, 0, none⟩ = some (.int .i64 (k : Int)) := by rw [← hW1]; exact at1 rfl
    have o1 : W1.cell? ⟨w.heap.size + 1, 1, none⟩ = some (.int .i64 what) := by rw [← hW1]; exact at1 rfl
    have o2 : W1.cell? ⟨w.heap.size + 1, 2, none⟩ = some (.string nm) := by rw [← hW1]; exact at1 rfl
    have o3 : W1.cell? ⟨w.heap.size + 1, 3, none⟩ = some (.int .i64 d) := by rw [← hW1]; exact at1 rfl
    have o4 : W1.cell? ⟨w.heap.size + 1, 4, none⟩ = some (.int .i64 aa) := by rw [← hW1]; exact at1 rfl
    have o5 : W1.cell? ⟨w.heap.size + 1, 5, none⟩ = some (.int .i64 bb) := by rw [← hW1]; exact at1 rfl
    have o6 : W1.cell? ⟨w.heap.size + 1, 6, none⟩ = some (.int .i64 n) := by rw [← hW1]; exact at1 rfl
    have o7 : W1.cell? ⟨w.heap.size + 1, 7, none⟩ = some (.slice ra rl rc) := by rw [← hW1]; exact at1 rfl
    have o8 : W1.cell? ⟨w.heap.size + 1, 8, none⟩ = some (.int .i64 dest) := by rw [← hW1]; exact at1 rfl
    have hw1s : W1.heap.size = w.heap.size + 2 := by rw [← hW1]; simp
    have HT1 : Hid (Shp W1) := ht.below HB1.out
    clear ht
    obtain ⟨s0, s1, s2, s3, s4, s5, s6, s7, s8⟩ := HT1.out.cells k hk17
    obtain ⟨sd, hsd⟩ : ∃ v, (F.sh k).d = v := ⟨_, rfl⟩
    obtain ⟨sa, hsa⟩ : ∃ v, (F.sh k).a = v := ⟨_, rfl⟩
    obtain ⟨sb, hsb⟩ : ∃ v, (F.sh k).b = v := ⟨_, rfl⟩
    obtain ⟨sw, hsw⟩ : ∃ v, (F.sh k).what = v := ⟨_, rfl⟩
    obtain ⟨sx, hsx⟩ : ∃ v, (F.sh k).args = v := ⟨_, rfl⟩
    obtain ⟨st, hst⟩ : ∃ v, (F.sh k).dest = v := ⟨_, rfl⟩
    rw [hsd, hsa, hsb, hsw, hsx, hst] at HR
    rw [hsd] at s0
    rw [hsa] at s1
    rw [hsb] at s2
    rw [hsw] at s3
    rw [hsx] at s6
    rw [hst] at s7
    obtain ⟨bd, hbd⟩ : ∃ v, F.stand T sd d = v := ⟨_, rfl⟩
    obtain ⟨ba, hba⟩ : ∃ v, F.stand T sa aa = v := ⟨_, rfl⟩
    obtain ⟨bb2, hbb⟩ : ∃ v, F.stand T sb bb = v := ⟨_, rfl⟩
    have HS1 : Hid (∀ y, Calls Tryd.prog 54 #[.agg #[.string nm0, .int .i64 params, .int .i64 T, .slice a l c], .int .i64 sd, .int .i64 d] y fun e w' => e = .returned (.bool bd) ∧ Below y.heap.size y w') := by rw [← hbd]; exact HST.out sd d
    have HS2 : Hid (∀ y, Calls Tryd.prog 54 #[.agg #[.string nm0, .int .i64 params, .int .i64 T, .slice a l c], .int .i64 sa, .int .i64 aa] y fun e w' => e = .returned (.bool ba) ∧ Below y.heap.size y w') := by rw [← hba]; exact HST.out sa aa
    have HS3 : Hid (∀ y, Calls Tryd.prog 54 #[.agg #[.string nm0, .int .i64 params, .int .i64 T, .slice a l c], .int .i64 sb, .int .i64 bb] y fun e w' => e = .returned (.bool bb2) ∧ Below y.heap.size y w') := by rw [← hbb]; exact HST.out sb bb
    rw [hbd, hba, hbb] at HR
    obtain ⟨bx, hbx⟩ : ∃ v, args.all (F.inT T) = v := ⟨_, rfl⟩
    rw [hbx] at HR HAT
    obtain ⟨e9, he9⟩ : ∃ v, (F.sh k).ends = v := ⟨_, rfl⟩
    obtain ⟨n9, hn9⟩ : ∃ v, (F.sh k).n = v := ⟨_, rfl⟩
    obtain ⟨m9, hm9⟩ : ∃ v, (F.sh k).name = v := ⟨_, rfl⟩
    rw [he9] at s8
    rw [hn9] at s5
    rw [hm9] at s4
    clear hsd hsa hsb hsw hsx hst hbd hba hbb hbx he9 hn9 hm9 HST
    obtain ⟨W2, hW2⟩ : ∃ W2, W1.alloc (.cells #[.int .i64 sd, .int .i64 sa, .int .i64 sb, .bool sw, .bool m9, .bool n9, .bool sx, .bool st, .bool e9] 95) = W2 := ⟨_, rfl⟩
    have HB2 : Hid (Below W1.heap.size W1 W2) := by show Below _ _ _; rw [← hW2]; exact bl1 _ _
    have HWB : Hid (∀ y, Below W2.heap.size W2 y → Below w.heap.size w y) := fun y hy => HB1.out.trans ((HB2.out.trans (hy.mono HB2.out.size)).mono HB1.out.size)
    have HD : Hid (∀ y, Below W2.heap.size W2 y → y.cell? ⟨w.heap.size, 0, none⟩ = some (.string nm0) ∧ y.cell? ⟨w.heap.size, 1, none⟩ = some (.int .i64 params) ∧ y.cell? ⟨w.heap.size, 2, none⟩ = some (.int .i64 T) ∧ y.cell? ⟨w.heap.size, 3, none⟩ = some (.slice a l c) ∧ y.cell? ⟨w.heap.size + 1, 0, none⟩ = some (.int .i64 (k : Int)) ∧ y.cell? ⟨w.heap.size + 1, 1, none⟩ = some (.int .i64 what) ∧ y.cell? ⟨w.heap.size + 1, 2, none⟩ = some (.string nm) ∧ y.cell? ⟨w.heap.size + 1, 3, none⟩ = some (.int .i64 d) ∧ y.cell? ⟨w.heap.size + 1, 4, none⟩ = some (.int .i64 aa) ∧ y.cell? ⟨w.heap.size + 1, 5, none⟩ = some (.int .i64 bb) ∧ y.cell? ⟨w.heap.size + 1, 6, none⟩ = some (.int .i64 n) ∧ y.cell? ⟨w.heap.size + 1, 7, none⟩ = some (.slice ra rl rc) ∧ y.cell? ⟨w.heap.size + 1, 8, none⟩ = some (.int .i64 dest) ∧ y.cell? ⟨w.heap.size + 2, 0, none⟩ = some (.int .i64 sd) ∧ y.cell? ⟨w.heap.size + 2, 1, none⟩ = some (.int .i64 sa) ∧ y.cell? ⟨w.heap.size + 2, 2, none⟩ = some (.int .i64 sb) ∧ y.cell? ⟨w.heap.size + 2, 3, none⟩ = some (.bool sw) ∧ y.cell? ⟨w.heap.size + 2, 4, none⟩ = some (.bool m9) ∧ y.cell? ⟨w.heap.size + 2, 5, none⟩ = some (.bool n9) ∧ y.cell? ⟨w.heap.size + 2, 6, none⟩ = some (.bool sx) ∧ y.cell? ⟨w.heap.size + 2, 7, none⟩ = some (.bool st) ∧ y.cell? ⟨w.heap.size + 2, 8, none⟩ = some (.bool e9)) := fun y hy => by
      have t0 : W2.cell? ⟨w.heap.size + 2, 0, none⟩ = some (.int .i64 sd) := by rw [← hW2, ← hw1s]; exact ncell_at rfl
      have t1 : W2.cell? ⟨w.heap.size + 2, 1, none⟩ = some (.int .i64 sa) := by rw [← hW2, ← hw1s]; exact ncell_at rfl
      have t2 : W2.cell? ⟨w.heap.size + 2, 2, none⟩ = some (.int .i64 sb) := by rw [← hW2, ← hw1s]; exact ncell_at rfl
      have t3 : W2.cell? ⟨w.heap.size + 2, 3, none⟩ = some (.bool sw) := by rw [← hW2, ← hw1s]; exact ncell_at rfl
      have t4 : W2.cell? ⟨w.heap.size + 2, 4, none⟩ = some (.bool m9) := by rw [← hW2, ← hw1s]; exact ncell_at rfl
      have t5 : W2.cell? ⟨w.heap.size + 2, 5, none⟩ = some (.bool n9) := by rw [← hW2, ← hw1s]; exact ncell_at rfl
      have t6 : W2.cell? ⟨w.heap.size + 2, 6, none⟩ = some (.bool sx) := by rw [← hW2, ← hw1s]; exact ncell_at rfl
      have t7 : W2.cell? ⟨w.heap.size + 2, 7, none⟩ = some (.bool st) := by rw [← hW2, ← hw1s]; exact ncell_at rfl
      have t8 : W2.cell? ⟨w.heap.size + 2, 8, none⟩ = some (.bool e9) := by rw [← hW2, ← hw1s]; exact ncell_at rfl
      have hz : Below W1.heap.size W1 y := HB2.out.trans (hy.mono HB2.out.size)
      exact ⟨cell_thru hz f0, cell_thru hz f1, cell_thru hz f2, cell_thru hz f3, cell_thru hz o0, cell_thru hz o1, cell_thru hz o2, cell_thru hz o3, cell_thru hz o4, cell_thru hz o5, cell_thru hz o6, cell_thru hz o7, cell_thru hz o8, cell_thru hy t0, cell_thru hy t1, cell_thru hy t2, cell_thru hy t3, cell_thru hy t4, cell_thru hy t5, cell_thru hy t6, cell_thru hy t7, cell_thru hy t8⟩
    have hk0 : 0 ≤ (k : Int) := by omega
    have hk2 : (k : Int) < 17 := by omega
    have hk3 : 1 ≤ (k : Int) := by omega
    have hk4 : (k : Int) ≤ 16 := by omega
    have HY0 : Hid (Below W2.heap.size W2 W2) := Below.refl _ _
    obtain ⟨a0, a1, a2, a3, a4, a5, a6, a7, a8, a9, a10, a11, a12, a13, a14, a15, a16, a17, a18, a19, a20, a21⟩ := HD.out W2 HY0.out
    go_enter Tryd.func37, Tryd.ntmps37
    go_wp2_with fail
    refine (HS1.out _).mono ?_
    rintro e y1 ⟨rfl, hy⟩
    have HY1 : Hid (Below W2.heap.size W2 y1) := HY0.out.trans (hy.mono HY0.out.size)
    clear hy hW1 hW2 f0 f1 f2 f3 o0 o1 o2 o3 o4 o5 o6 o7 o8 s0 s1 s2 s3 s4 s5 s6 s7 s8 hw1s a0 a1 a2 a3 a4 a5 a6 a7 a8 a9 a10 a11 a12 a13 a14 a15 a16 a17 a18 a19 a20 a21
    obtain ⟨f0, f1, f2, f3, o0, o1, o2, o3, o4, o5, o6, o7, o8, t0, t1, t2, t3, t4, t5, t6, t7, t8⟩ := HD.out y1 HY1.out
    cases bd with
    | false =>
      have HV : R = false := by rw [HR.out]; simp [*]
      subst HV
      have HBX : Hid (Below w.heap.size w y1) := HWB.out _ HY1.out
      go_wp2_with fail
      go_ret
      exact ⟨rfl, HBX.out⟩
    | true =>
      go_wp2_with fail
      refine (HS2.out _).mono ?_
      rintro e y2 ⟨rfl, hy⟩
      have HY2 : Hid (Below W2.heap.size W2 y2) := HY1.out.trans (hy.mono HY1.out.size)
      clear hy
      clear f0 f1 f2 f3 o0 o1 o2 o3 o4 o5 o6 o7 o8 t0 t1 t2 t3 t4 t5 t6 t7 t8
      obtain ⟨f0, f1, f2, f3, o0, o1, o2, o3, o4, o5, o6, o7, o8, t0, t1, t2, t3, t4, t5, t6, t7, t8⟩ := HD.out y2 HY2.out
      cases ba with
      | false =>
        have HV : R = false := by rw [HR.out]; simp [*]
        subst HV
        have HBX : Hid (Below w.heap.size w y2) := HWB.out _ HY2.out
        go_wp2_with fail
        go_ret
        exact ⟨rfl, HBX.out⟩
      | true =>
        go_wp2_with fail
        refine (HS3.out _).mono ?_
        rintro e y3 ⟨rfl, hy⟩
        have HY3 : Hid (Below W2.heap.size W2 y3) := HY2.out.trans (hy.mono HY2.out.size)
        clear hy
        clear f0 f1 f2 f3 o0 o1 o2 o3 o4 o5 o6 o7 o8 t0 t1 t2 t3 t4 t5 t6 t7 t8
        obtain ⟨f0, f1, f2, f3, o0, o1, o2, o3, o4, o5, o6, o7, o8, t0, t1, t2, t3, t4, t5, t6, t7, t8⟩ := HD.out y3 HY3.out
        cases bb2 with
        | false =>
          have HV : R = false := by rw [HR.out]; simp [*]
          subst HV
          have HBX : Hid (Below w.heap.size w y3) := HWB.out _ HY3.out
          go_wp2_with fail
          go_ret
          exact ⟨rfl, HBX.out⟩
        | true =>
          cases sx with
          | false =>
            cases sw with
            | false =>
              cases st with
              | false =>
                by_cases z1 : (k : Int) = 16
                · have e1 : ((k : Int) != 16) = false := by simpa using z1
                  by_cases z2 : 1 ≤ n
                  · by_cases z3 : n ≤ 127
                    · have HV : R = true := by rw [HR.out]; simp [*]
                      subst HV
                      have HBX : Hid (Below w.heap.size w y3) := HWB.out _ HY3.out
                      go_wp2_with fail
                      go_ret
                      exact ⟨rfl, HBX.out⟩
                    · have ez3 : decide (n ≤ 127) = false := decide_eq_false z3
                      have HV : R = false := by rw [HR.out]; simp [*]
                      subst HV
                      have HBX : Hid (Below w.heap.size w y3) := HWB.out _ HY3.out
                      go_wp2_with fail
                      go_ret
                      exact ⟨rfl, HBX.out⟩
                  · have HV : R = false := by rw [HR.out]; simp [*]
                    subst HV
                    have HBX : Hid (Below w.heap.size w y3) := HWB.out _ HY3.out
                    go_wp2_with fail
                    go_ret
                    exact ⟨rfl, HBX.out⟩
                · have e1 : ((k : Int) != 16) = true := by simpa using z1
                  have HV : R = true := by rw [HR.out]; simp [*]
                  subst HV
                  have HBX : Hid (Below w.heap.size w y3) := HWB.out _ HY3.out
                  go_wp2_with fail
                  go_ret
                  exact ⟨rfl, HBX.out⟩
              | true =>
                have HIN : F.inT (l : Int) dest = (decide (0 ≤ dest) && decide (dest < l)) := rfl
                rw [HIN] at HR
                clear HIN
                by_cases q1 : 0 ≤ dest
                · by_cases q2 : dest < (l : Int)
                  · by_cases z1 : (k : Int) = 16
                    · have e1 : ((k : Int) != 16) = false := by simpa using z1
                      by_cases z2 : 1 ≤ n
                      · by_cases z3 : n ≤ 127
                        · have HV : R = true := by rw [HR.out]; simp [*]
                          subst HV
                          have HBX : Hid (Below w.heap.size w y3) := HWB.out _ HY3.out
                          go_wp2_with fail
                          go_ret
                          exact ⟨rfl, HBX.out⟩
                        · have ez3 : decide (n ≤ 127) = false := decide_eq_false z3
                          have HV : R = false := by rw [HR.out]; simp [*]
                          subst HV
                          have HBX : Hid (Below w.heap.size w y3) := HWB.out _ HY3.out
                          go_wp2_with fail
                          go_ret
                          exact ⟨rfl, HBX.out⟩
                      · have HV : R = false := by rw [HR.out]; simp [*]
                        subst HV
                        have HBX : Hid (Below w.heap.size w y3) := HWB.out _ HY3.out
                        go_wp2_with fail
                        go_ret
                        exact ⟨rfl, HBX.out⟩
                    · have e1 : ((k : Int) != 16) = true := by simpa using z1
                      have HV : R = true := by rw [HR.out]; simp [*]
                      subst HV
                      have HBX : Hid (Below w.heap.size w y3) := HWB.out _ HY3.out
                      go_wp2_with fail
                      go_ret
                      exact ⟨rfl, HBX.out⟩
                  · have HV : R = false := by rw [HR.out]; simp [*]
                    subst HV
                    have HBX : Hid (Below w.heap.size w y3) := HWB.out _ HY3.out
                    go_wp2_with fail
                    go_ret
                    exact ⟨rfl, HBX.out⟩
                · have HV : R = false := by rw [HR.out]; simp [*]
                  subst HV
                  have HBX : Hid (Below w.heap.size w y3) := HWB.out _ HY3.out
                  go_wp2_with fail
                  go_ret
                  exact ⟨rfl, HBX.out⟩
            | true =>
              by_cases p1 : 3 ≤ what
              · by_cases p2 : what ≤ 16
                · cases st with
                  | false =>
                    by_cases z1 : (k : Int) = 16
                    · have e1 : ((k : Int) != 16) = false := by simpa using z1
                      by_cases z2 : 1 ≤ n
                      · by_cases z3 : n ≤ 127
                        · have HV : R = true := by rw [HR.out]; simp [*]
                          subst HV
                          have HBX : Hid (Below w.heap.size w y3) := HWB.out _ HY3.out
                          go_wp2_with fail
                          go_ret
                          exact ⟨rfl, HBX.out⟩
                        · have ez3 : decide (n ≤ 127) = false := decide_eq_false z3
                          have HV : R = false := by rw [HR.out]; simp [*]
                          subst HV
                          have HBX : Hid (Below w.heap.size w y3) := HWB.out _ HY3.out
                          go_wp2_with fail
                          go_ret
                          exact ⟨rfl, HBX.out⟩
                      · have HV : R = false := by rw [HR.out]; simp [*]
                        subst HV
                        have HBX : Hid (Below w.heap.size w y3) := HWB.out _ HY3.out
                        go_wp2_with fail
                        go_ret
                        exact ⟨rfl, HBX.out⟩
                    · have e1 : ((k : Int) != 16) = true := by simpa using z1
                      have HV : R = true := by rw [HR.out]; simp [*]
                      subst HV
                      have HBX : Hid (Below w.heap.size w y3) := HWB.out _ HY3.out
                      go_wp2_with fail
                      go_ret
                      exact ⟨rfl, HBX.out⟩
                  | true =>
                    have HIN : F.inT (l : Int) dest = (decide (0 ≤ dest) && decide (dest < l)) := rfl
                    rw [HIN] at HR
                    clear HIN
                    by_cases q1 : 0 ≤ dest
                    · by_cases q2 : dest < (l : Int)
                      · by_cases z1 : (k : Int) = 16
                        · have e1 : ((k : Int) != 16) = false := by simpa using z1
                          by_cases z2 : 1 ≤ n
                          · by_cases z3 : n ≤ 127
                            · have HV : R = true := by rw [HR.out]; simp [*]
                              subst HV
                              have HBX : Hid (Below w.heap.size w y3) := HWB.out _ HY3.out
                              go_wp2_with fail
                              go_ret
                              exact ⟨rfl, HBX.out⟩
                            · have ez3 : decide (n ≤ 127) = false := decide_eq_false z3
                              have HV : R = false := by rw [HR.out]; simp [*]
                              subst HV
                              have HBX : Hid (Below w.heap.size w y3) := HWB.out _ HY3.out
                              go_wp2_with fail
                              go_ret
                              exact ⟨rfl, HBX.out⟩
                          · have HV : R = false := by rw [HR.out]; simp [*]
                            subst HV
                            have HBX : Hid (Below w.heap.size w y3) := HWB.out _ HY3.out
                            go_wp2_with fail
                            go_ret
                            exact ⟨rfl, HBX.out⟩
                        · have e1 : ((k : Int) != 16) = true := by simpa using z1
                          have HV : R = true := by rw [HR.out]; simp [*]
                          subst HV
                          have HBX : Hid (Below w.heap.size w y3) := HWB.out _ HY3.out
                          go_wp2_with fail
                          go_ret
                          exact ⟨rfl, HBX.out⟩
                      · have HV : R = false := by rw [HR.out]; simp [*]
                        subst HV
                        have HBX : Hid (Below w.heap.size w y3) := HWB.out _ HY3.out
                        go_wp2_with fail
                        go_ret
                        exact ⟨rfl, HBX.out⟩
                    · have HV : R = false := by rw [HR.out]; simp [*]
                      subst HV
                      have HBX : Hid (Below w.heap.size w y3) := HWB.out _ HY3.out
                      go_wp2_with fail
                      go_ret
                      exact ⟨rfl, HBX.out⟩
                · have HV : R = false := by rw [HR.out]; simp [*]
                  subst HV
                  have HBX : Hid (Below w.heap.size w y3) := HWB.out _ HY3.out
                  go_wp2_with fail
                  go_ret
                  exact ⟨rfl, HBX.out⟩
              · have HV : R = false := by rw [HR.out]; simp [*]
                subst HV
                have HBX : Hid (Below w.heap.size w y3) := HWB.out _ HY3.out
                go_wp2_with fail
                go_ret
                exact ⟨rfl, HBX.out⟩
          | true =>
            go_wp2_with fail
            refine (HAT.out _ (HWB.out _ HY3.out)).mono ?_
            rintro e y4 ⟨rfl, hy⟩
            have HY4 : Hid (Below W2.heap.size W2 y4) := HY3.out.trans (hy.mono HY3.out.size)
            clear hy
            clear f0 f1 f2 f3 o0 o1 o2 o3 o4 o5 o6 o7 o8 t0 t1 t2 t3 t4 t5 t6 t7 t8
            obtain ⟨f0, f1, f2, f3, o0, o1, o2, o3, o4, o5, o6, o7, o8, t0, t1, t2, t3, t4, t5, t6, t7, t8⟩ := HD.out y4 HY4.out
            cases bx with
            | false =>
              have HV : R = false := by rw [HR.out]; simp [*]
              subst HV
              have HBX : Hid (Below w.heap.size w y4) := HWB.out _ HY4.out
              go_wp2_with fail
              go_ret
              exact ⟨rfl, HBX.out⟩
            | true =>
              cases sw with
              | false =>
                cases st with
                | false =>
                  by_cases z1 : (k : Int) = 16
                  · have e1 : ((k : Int) != 16) = false := by simpa using z1
                    by_cases z2 : 1 ≤ n
                    · by_cases z3 : n ≤ 127
                      · have HV : R = true := by rw [HR.out]; simp [*]
                        subst HV
                        have HBX : Hid (Below w.heap.size w y4) := HWB.out _ HY4.out
                        go_wp2_with fail
                        go_ret
                        exact ⟨rfl, HBX.out⟩
                      · have ez3 : decide (n ≤ 127) = false := decide_eq_false z3
                        have HV : R = false := by rw [HR.out]; simp [*]
                        subst HV
                        have HBX : Hid (Below w.heap.size w y4) := HWB.out _ HY4.out
                        go_wp2_with fail
                        go_ret
                        exact ⟨rfl, HBX.out⟩
                    · have HV : R = false := by rw [HR.out]; simp [*]
                      subst HV
                      have HBX : Hid (Below w.heap.size w y4) := HWB.out _ HY4.out
                      go_wp2_with fail
                      go_ret
                      exact ⟨rfl, HBX.out⟩
                  · have e1 : ((k : Int) != 16) = true := by simpa using z1
                    have HV : R = true := by rw [HR.out]; simp [*]
                    subst HV
                    have HBX : Hid (Below w.heap.size w y4) := HWB.out _ HY4.out
                    go_wp2_with fail
                    go_ret
                    exact ⟨rfl, HBX.out⟩
                | true =>
                  have HIN : F.inT (l : Int) dest = (decide (0 ≤ dest) && decide (dest < l)) := rfl
                  rw [HIN] at HR
                  clear HIN
                  by_cases q1 : 0 ≤ dest
                  · by_cases q2 : dest < (l : Int)
                    · by_cases z1 : (k : Int) = 16
                      · have e1 : ((k : Int) != 16) = false := by simpa using z1
                        by_cases z2 : 1 ≤ n
                        · by_cases z3 : n ≤ 127
                          · have HV : R = true := by rw [HR.out]; simp [*]
                            subst HV
                            have HBX : Hid (Below w.heap.size w y4) := HWB.out _ HY4.out
                            go_wp2_with fail
                            go_ret
                            exact ⟨rfl, HBX.out⟩
                          · have ez3 : decide (n ≤ 127) = false := decide_eq_false z3
                            have HV : R = false := by rw [HR.out]; simp [*]
                            subst HV
                            have HBX : Hid (Below w.heap.size w y4) := HWB.out _ HY4.out
                            go_wp2_with fail
                            go_ret
                            exact ⟨rfl, HBX.out⟩
                        · have HV : R = false := by rw [HR.out]; simp [*]
                          subst HV
                          have HBX : Hid (Below w.heap.size w y4) := HWB.out _ HY4.out
                          go_wp2_with fail
                          go_ret
                          exact ⟨rfl, HBX.out⟩
                      · have e1 : ((k : Int) != 16) = true := by simpa using z1
                        have HV : R = true := by rw [HR.out]; simp [*]
                        subst HV
                        have HBX : Hid (Below w.heap.size w y4) := HWB.out _ HY4.out
                        go_wp2_with fail
                        go_ret
                        exact ⟨rfl, HBX.out⟩
                    · have HV : R = false := by rw [HR.out]; simp [*]
                      subst HV
                      have HBX : Hid (Below w.heap.size w y4) := HWB.out _ HY4.out
                      go_wp2_with fail
                      go_ret
                      exact ⟨rfl, HBX.out⟩
                  · have HV : R = false := by rw [HR.out]; simp [*]
                    subst HV
                    have HBX : Hid (Below w.heap.size w y4) := HWB.out _ HY4.out
                    go_wp2_with fail
                    go_ret
                    exact ⟨rfl, HBX.out⟩
              | true =>
                by_cases p1 : 3 ≤ what
                · by_cases p2 : what ≤ 16
                  · cases st with
                    | false =>
                      by_cases z1 : (k : Int) = 16
                      · have e1 : ((k : Int) != 16) = false := by simpa using z1
                        by_cases z2 : 1 ≤ n
                        · by_cases z3 : n ≤ 127
                          · have HV : R = true := by rw [HR.out]; simp [*]
                            subst HV
                            have HBX : Hid (Below w.heap.size w y4) := HWB.out _ HY4.out
                            go_wp2_with fail
                            go_ret
                            exact ⟨rfl, HBX.out⟩
                          · have ez3 : decide (n ≤ 127) = false := decide_eq_false z3
                            have HV : R = false := by rw [HR.out]; simp [*]
                            subst HV
                            have HBX : Hid (Below w.heap.size w y4) := HWB.out _ HY4.out
                            go_wp2_with fail
                            go_ret
                            exact ⟨rfl, HBX.out⟩
                        · have HV : R = false := by rw [HR.out]; simp [*]
                          subst HV
                          have HBX : Hid (Below w.heap.size w y4) := HWB.out _ HY4.out
                          go_wp2_with fail
                          go_ret
                          exact ⟨rfl, HBX.out⟩
                      · have e1 : ((k : Int) != 16) = true := by simpa using z1
                        have HV : R = true := by rw [HR.out]; simp [*]
                        subst HV
                        have HBX : Hid (Below w.heap.size w y4) := HWB.out _ HY4.out
                        go_wp2_with fail
                        go_ret
                        exact ⟨rfl, HBX.out⟩
                    | true =>
                      have HIN : F.inT (l : Int) dest = (decide (0 ≤ dest) && decide (dest < l)) := rfl
                      rw [HIN] at HR
                      clear HIN
                      by_cases q1 : 0 ≤ dest
                      · by_cases q2 : dest < (l : Int)
                        · by_cases z1 : (k : Int) = 16
                          · have e1 : ((k : Int) != 16) = false := by simpa using z1
                            by_cases z2 : 1 ≤ n
                            · by_cases z3 : n ≤ 127
                              · have HV : R = true := by rw [HR.out]; simp [*]
                                subst HV
                                have HBX : Hid (Below w.heap.size w y4) := HWB.out _ HY4.out
                                go_wp2_with fail
                                go_ret
                                exact ⟨rfl, HBX.out⟩
                              · have ez3 : decide (n ≤ 127) = false := decide_eq_false z3
                                have HV : R = false := by rw [HR.out]; simp [*]
                                subst HV
                                have HBX : Hid (Below w.heap.size w y4) := HWB.out _ HY4.out
                                go_wp2_with fail
                                go_ret
                                exact ⟨rfl, HBX.out⟩
                            · have HV : R = false := by rw [HR.out]; simp [*]
                              subst HV
                              have HBX : Hid (Below w.heap.size w y4) := HWB.out _ HY4.out
                              go_wp2_with fail
                              go_ret
                              exact ⟨rfl, HBX.out⟩
                          · have e1 : ((k : Int) != 16) = true := by simpa using z1
                            have HV : R = true := by rw [HR.out]; simp [*]
                            subst HV
                            have HBX : Hid (Below w.heap.size w y4) := HWB.out _ HY4.out
                            go_wp2_with fail
                            go_ret
                            exact ⟨rfl, HBX.out⟩
                        · have HV : R = false := by rw [HR.out]; simp [*]
                          subst HV
                          have HBX : Hid (Below w.heap.size w y4) := HWB.out _ HY4.out
                          go_wp2_with fail
                          go_ret
                          exact ⟨rfl, HBX.out⟩
                      · have HV : R = false := by rw [HR.out]; simp [*]
                        subst HV
                        have HBX : Hid (Below w.heap.size w y4) := HWB.out _ HY4.out
                        go_wp2_with fail
                        go_ret
                        exact ⟨rfl, HBX.out⟩
                  · have HV : R = false := by rw [HR.out]; simp [*]
                    subst HV
                    have HBX : Hid (Below w.heap.size w y4) := HWB.out _ HY4.out
                    go_wp2_with fail
                    go_ret
                    exact ⟨rfl, HBX.out⟩
                · have HV : R = false := by rw [HR.out]; simp [*]
                  subst HV
                  have HBX : Hid (Below w.heap.size w y4) := HWB.out _ HY4.out
                  go_wp2_with fail
                  go_ret
                  exact ⟨rfl, HBX.out⟩
  · have HV0 : F.opOk f.temps l x = false := by
      rw [← Bool.not_eq_true]
      intro e
      exact hk (F.op_kind e)
    rw [HV0]
    clear HV0 ha ht
    obtain ⟨nm0, params, T, code⟩ := f
    obtain ⟨op, what, nm, d, aa, bb, n, args, dest⟩ := x
    obtain ⟨ra, rl, rc⟩ := r
    unfold fnV opV
    simp only at hk ⊢
    have HBX : Hid (Below w.heap.size w ((w.alloc (.cells #[.string nm0, .int .i64 params, .int .i64 T, .slice a l c] 24)).alloc (.cells #[.int .i64 op, .int .i64 what, .string nm, .int .i64 d, .int .i64 aa, .int .i64 bb, .int .i64 n, .slice ra rl rc, .int .i64 dest] 46))) := (bl1 _ _).alloc (by simp) _
    by_cases h1 : 1 ≤ op
    · have h2 : 16 < op := by omega
      clear hk
      go_enter Tryd.func37, Tryd.ntmps37
      go_wp2_with fail
      go_ret
      exact ⟨rfl, HBX.out⟩
    · clear hk
      go_enter Tryd.func37, Tryd.ntmps37
      go_wp2_with fail
      go_ret
      exact ⟨rfl, HBX.out⟩
end Go.Proofs.YtljgpngbkmembaaDoor
