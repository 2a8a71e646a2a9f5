/- ins.All. -/
import Derived.Test.YtcllbbdkihmpgaaDoorInsDecode
import Derived.Test.YtcllbbdkihmpgaaDoorInsBackMath
import Derived.Test.YtcllbbdkihmpgaaDoorInsEq
import Derived.Deep.LoopGhost
namespace Go.Proofs.YtcllbbdkihmpgaaDoor
open Go.RowKit
set_option linter.unusedVariables false
attribute [local go_sem ↓] Go.wp_at_zero Go.wp_at_succ

theorem infoIns : (Tryd.prog.info? 23).map (fun i => (i.zero, i.size, i.bytes)) = some (some (.agg #[.int .i64 0, .int .i64 0, .int .i64 0, .int .i64 0]), 4, 32) := by kernel_rfl

/-- An instruction. -/
structure I.Q where
  op : Int
  a : Int
  b : Int
  n : Int
abbrev I.Q.v (q : I.Q) : Value := .agg #[.int .i64 q.op, .int .i64 q.a, .int .i64 q.b, .int .i64 q.n]
def I.Q.cs (q : I.Q) : List Value := [.int .i64 q.op, .int .i64 q.a, .int .i64 q.b, .int .i64 q.n]
def I.rows (l : List I.Q) : List Value := l.flatMap I.Q.cs
theorem I.rows_len (l : List I.Q) : (I.rows l).length = l.length * 4 := by
  induction l with
  | nil => rfl
  | cons q r ih => simp only [I.rows, List.flatMap_cons, List.length_append, List.length_cons] at *; rw [ih]; simp [I.Q.cs]; omega
theorem I.rows_snoc (l : List I.Q) (q : I.Q) : I.rows (l ++ [q]) = I.rows l ++ q.cs := by simp [I.rows]
theorem cs_one (q : I.Q) : ∀ u ∈ q.cs, u.oneCell' = true := by
  intro u hu
  simp [I.Q.cs] at hu
  rcases hu with rfl | rfl | rfl | rfl <;> rfl

/-- The instruction with whose form bytes begin, and what stands behind it. -/
def I.dQ (s : ByteArray) : I.Q := ⟨I.hd s, I.dA s, I.dB s, I.dN s⟩
def I.rest (s : ByteArray) : ByteArray := s.extract (I.psize (I.hd s)).toNat s.size
theorem I.rest_size (s : ByteArray) (h : I.dOk s = true) : (I.rest s).size + (I.psize (I.hd s)).toNat = s.size ∧ 1 ≤ (I.psize (I.hd s)).toNat := by
  have := (I.enc_dec h).2.2
  unfold I.rest
  simp
  omega
/-- All instructions of bytes; none: they are none's. -/
def I.allF : Nat → ByteArray → Option (List I.Q)
  | 0, s => if s.size = 0 then some [] else none
  | f + 1, s => if s.size = 0 then some [] else if I.dOk s = true then (I.allF f (I.rest s)).map (I.dQ s :: ·) else none
def I.allI (s : ByteArray) : Option (List I.Q) := I.allF s.size s
theorem I.allF_fuel : ∀ (f g : Nat) (s : ByteArray), s.size ≤ f → s.size ≤ g → I.allF f s = I.allF g s
  | 0, 0, s, _, _ => rfl
  | 0, g + 1, s, h, _ => by
    have : s.size = 0 := by omega
    simp [I.allF, this]
  | f + 1, 0, s, _, h => by
    have : s.size = 0 := by omega
    simp [I.allF, this]
  | f + 1, g + 1, s, h1, h2 => by
    simp only [I.allF]
    split
    · rfl
    · split
      · rename_i hd
        have := I.rest_size s hd
        rw [I.allF_fuel f g (I.rest s) (by omega) (by omega)]
      · rfl
theorem I.allI_zero {s : ByteArray} (h : s.size = 0) : I.allI s = some [] := by unfold I.allI; rw [h]; simp [I.allF, h]
theorem I.allI_no {s : ByteArray} (h : 0 < s.size) (hd : I.dOk s = false) : I.allI s = none := by
  unfold I.allI
  obtain ⟨k, hk⟩ : ∃ k, s.size = k + 1 := ⟨s.size - 1, by omega⟩
  rw [hk]
  simp only [I.allF]
  rw [if_neg (by omega), if_neg (by rw [hd]; decide)]
theorem I.allI_yes {s : ByteArray} (h : 0 < s.size) (hd : I.dOk s = true) : I.allI s = (I.allI (I.rest s)).map (I.dQ s :: ·) := by
  unfold I.allI
  have hr := I.rest_size s hd
  obtain ⟨k, hk⟩ : ∃ k, s.size = k + 1 := ⟨s.size - 1, by omega⟩
  rw [hk]
  simp only [I.allF]
  rw [if_neg (by omega), if_pos hd, I.allF_fuel k (I.rest s).size (I.rest s) (by omega) (Nat.le_refl _)]
theorem I.dOk_pos {s : ByteArray} (h : I.dOk s = true) : 0 < s.size := by
  have := (I.enc_dec h).2.2; omega

/-- What All answers: a list of its own, or nothing and 9. -/
def I.allPost (s : ByteArray) (B : Nat) (e : Ending) (w' : World) : Prop :=
  match I.allI s with
  | some l => ∃ v, e = .returned (.tuple #[v, .int .i64 0]) ∧ w'.ownsRow B 23 4 v l.length (I.rows l)
  | none => e = .returned (.tuple #[.slice none 0 0, .int .i64 9])

theorem ins_cells (w : World) (q : I.Q) (o : Nat) (ho : o = w.heap.size) : ∀ j u, q.cs[j]? = some u → (w.alloc (.cells #[.int .i64 q.op, .int .i64 q.a, .int .i64 q.b, .int .i64 q.n] 23)).cell? ((⟨o, 0, none⟩ : Addr).add j) = some u := by
  subst ho
  intro j u hu
  rw [Addr.add_lit]
  simp
  exact hu

set_option maxRecDepth 100000 in
set_option maxHeartbeats 8000000 in
theorem all_any (s : ByteArray) (hm : s.size ≤ 4398046511104) (w : World) (ht : Tab w) :
    Calls Tryd.prog 16 #[.string s] w fun e w' => I.allPost s w.heap.size e w' ∧ Below w.heap.size w w' := by
  obtain ⟨i0, hi, hz0, hz1, hz2⟩ := info_parts infoIns
  have ht0 := ht
  go_enter Tryd.func16, Tryd.ntmps16
  go_wp2
  go_loopg [0, 4] s.size (fun k sv lv wr => ∃ (t : ByteArray) (done : List I.Q), sv = .string t ∧ t.size ≤ k ∧ done.length + t.size ≤ s.size ∧ wr.ownsRow w.heap.size 23 4 lv done.length (I.rows done) ∧ Below w.heap.size w wr ∧ Hid (I.allI s = (I.allI t).map (done ++ ·)))
  case atStart => exact ⟨s, [], rfl, Nat.le_refl _, by simp, World.ownsRow_nil _ _ _ _, Below.refl _ _, by show _ = _; simp⟩
  case round =>
    obtain ⟨t, done, rfl, htk, hdn, ho, hb, HA⟩ := hrel
    have ht1 := ht0.below hb
    by_cases h0 : t.size = 0
    · obtain rfl : t = { data := #[] } := by
        obtain ⟨d⟩ := t
        simp [ByteArray.size] at h0
        subst h0; rfl
      go_wp2
      go_ret2
      refine ⟨?_, hb⟩
      unfold I.allPost
      rw [HA.out, I.allI_zero rfl]
      simp only [Option.map_some, List.append_nil]
      exact ⟨_, rfl, ho⟩
    · have hne := ne_empty (s := t) (by omega)
      have HR : Hid (∀ w, Tab w → Calls Tryd.prog 27 #[.string t] w fun e w' => e = .returned (rdV t) ∧ Below w.heap.size w w') := fun w ht => read_any _ w ht
      unfold rdV at HR
      cases hx : I.dOk t with
      | false =>
        rw [hx, if_neg (by decide)] at HR
        go_wp2_with (go_at_call 27; refine (HR.out _ ht1).mono ?_; rintro e w1 ⟨rfl, hb1⟩)
        go_ret2
        refine ⟨?_, (hb.trans (hb1.mono hb.size)).alloc (by have := hb.size; have := hb1.size; omega) _⟩
        unfold I.allPost
        rw [HA.out, I.allI_no (by omega) hx]
        rfl
      | true =>
        rw [hx, if_pos rfl] at HR
        have hrs := I.rest_size t hx
        have hpz : (0 : Int) ≤ I.psize (I.hd t) ∧ I.psize (I.hd t) ≤ (t.size : Int) := by omega
        obtain ⟨hp0, hp1⟩ := hpz
        have HQ : Hid (I.dQ t = ⟨I.hd t, I.dA t, I.dB t, I.dN t⟩) := rfl
        have HT : Hid (I.rest t = t.extract (I.psize (I.hd t)).toNat t.size) := rfl
        generalize hq : I.dQ t = q at *
        have hqe := HQ.out
        have q1 : I.hd t = q.op := by rw [hqe]
        have q2 : I.dA t = q.a := by rw [hqe]
        have q3 : I.dB t = q.b := by rw [hqe]
        have q4 : I.dN t = q.n := by rw [hqe]
        rw [q1, q2, q3, q4] at HR
        rw [q1] at HT hp0 hp1 hrs
        have HX : Hid (I.dOk t = true) := hx
        have HQQ : Hid (I.dQ t = q) := hq
        clear q1 q2 q3 q4 hqe HQ hq hx
        generalize I.psize q.op = z at *
        go_wp2_with fail
        refine (HR.out _ ht1).mono ?_
        rintro e w1 ⟨rfl, hb1⟩
        have ho1 := own_kept ho hb1
        have hs1 := hb1.size
        have hs0 := hb.size
        have hbb : Below w.heap.size w w1 := hb.trans (hb1.mono hs0)
        clear ho hb hb1
        go_wp2_with (first | (at_builtin; refine wpList_append_own _ rfl _ _ 32 rfl w.heap.size 23 i0 _ 4 32 Tryd.underlying32 hi hz0 hz1 hz2 rfl (by decide) _ _ _ rfl ((ho1.alloc _).alloc _) ⟨w1.heap.size + 1, 0, none⟩ 1 1 q.cs rfl rfl (ins_cells _ q _ (by simp)) (cs_one q) (by unfold maxLen; omega) (by omega) (by simp; omega) ?_) | go_in)
        intro v2 w2 ho2 hg2 _
        have hb2 : Below w.heap.size w w2 := below_own ((hbb.alloc (by omega) _).alloc (by simp; omega) _) ((ho1.alloc _).alloc _) hg2 (by simp; omega)
        rw [← I.rows_snoc] at ho2
        have ho3 : w2.ownsRow w.heap.size 23 4 v2 (done ++ [q]).length (I.rows (done ++ [q])) := by simpa using ho2
        clear ho2 hg2 ho1 hbb
        go_wp2
        go_roundg (I.rest t).size
        case measure => omega
        case rel =>
          refine ⟨I.rest t, done ++ [q], by rw [HT.out], Nat.le_refl _, by simp; omega, ho3, hb2, ?_⟩
          show I.allI s = _
          rw [HA.out, I.allI_yes (I.dOk_pos HX.out) HX.out, HQQ.out, Option.map_map]
          congr 1
          funext l
          simp

end Go.Proofs.YtcllbbdkihmpgaaDoor
