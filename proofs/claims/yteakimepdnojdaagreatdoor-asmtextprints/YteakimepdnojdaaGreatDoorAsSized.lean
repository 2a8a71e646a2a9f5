/- How long items' words can be: the reach that the form gives. -/
import Derived.Test.YteakimepdnojdaaGreatDoorAsOpenZ
import Derived.SizedLaws
namespace Go.Proofs.YteakimepdnojdaaGreatDoor
open Go.ChangeShapes Go.WideShapes Go.ChangeAt Go.RowKit Go.Joins

theorem weightsAll_of {H : Type} {P : Program} {e : TypeId} : ∀ {l : List (DataW H)} {d : DataW H}, d ∈ l → ∀ n ∈ d.weights P e, n ∈ DataW.weightsAll P e l
  | d' :: r, d, hd, n, hn => by
    simp only [DataW.weightsAll, List.mem_append]
    rcases List.mem_cons.1 hd with rfl | h
    · exact Or.inl hn
    · exact Or.inr (weightsAll_of h n hn)
theorem bytes8 : Tryz.prog.bytesOf 2 = 8 := by kernel_rfl

section
variable {H : Type} {enc : TypeId × Value → H} {w : World} {base : Nat} {spare : Nat → Bool} {held : Bool}
theorem sized_I {fuel : Nat} {a : Option Addr} {l c : Nat} {x : DataW H × List MemPlace} {R : Nat} (h : DataW.trod enc Tryz.prog w base spare held fuel 30 [.slice a l c] = some x) (hR : ∀ n ∈ x.1.weights Tryz.prog 30, n ≤ R) : l * 8 ≤ R := by
  rcases open_ints Tryz.underlying30 Tryz.underlying2 cell_i64 h with ⟨hcs, -⟩ | ⟨a', l', c', zs, hcs, -, hl, hm, hz, rfl, -, -⟩
  · simp at hcs
    omega
  · simp at hcs
    obtain ⟨-, rfl, rfl⟩ := hcs
    have := hR ((((lits (H := H) .i64 (zs.take l)).length + (lits (H := H) .i64 (zs.drop l)).length) * Tryz.prog.bytesOf 2)) (by simp [DataW.weights, Tryz.underlying30])
    rw [bytes8] at this
    have h1 : (lits (H := H) .i64 (zs.take l)).length = l := by
      simp only [lits, List.length_map, List.length_take]
      have : l ≤ zs.length := by rw [hz]; split <;> omega
      omega
    rw [h1] at this
    omega
set_option maxRecDepth 100000 in
theorem sized_A {fuel : Nat} {u0 u1 u2 u3 u4 u5 : Value} {a : Option Addr} {l c : Nat} {x : DataW H × List MemPlace} {R : Nat} (h : DataW.trod enc Tryz.prog w base spare held fuel 32 [u0, u1, u2, u3, u4, u5, .slice a l c] = some x) (hR : ∀ n ∈ x.1.weights Tryz.prog 32, n ≤ R) : l * 8 ≤ R := by
  obtain ⟨y0, y1, y2, y3, n, rfl, hl, h0, h1, h2, h3⟩ := trod_struct4 Tryz.underlying32 h
  simp only [cell_int, cell_str, cell_ins, cell_sl] at h0 h1 h2 h3
  refine sized_I (by simpa using h3) (fun n hn => hR n ?_)
  simp only [DataW.weights, Tryz.underlying32]
  simp only [List.map_cons, List.map_nil, DataW.weightsEach, List.mem_append]
  exact Or.inr (Or.inr (Or.inr (Or.inl hn)))
set_option maxRecDepth 100000 in
theorem trod_A0 {fuel : Nat} {cs : List Value} {x : DataW H × List MemPlace} (h : DataW.trod enc Tryz.prog w base spare held fuel 32 cs = some x) : ∃ (u0 u1 u2 u3 u4 u5 : Value) (a1 : Option Addr) (l1 c1 : Nat), cs = [u0, u1, u2, u3, u4, u5, .slice a1 l1 c1] := by
  obtain ⟨y0, y1, y2, y3, n, -, hl, h0, h1, h2, h3⟩ := trod_struct4 Tryz.underlying32 h
  rw [cell_item] at hl
  match cs, hl with
  | [u0, u1, u2, u3, u4, u5, u6], _ =>
    simp only [cell_int, cell_str, cell_ins, cell_sl] at h0 h1 h2 h3
    have h3 : DataW.trod enc Tryz.prog w base spare held n 30 [u6] = some y3 := by simpa using h3
    rcases open_ints Tryz.underlying30 Tryz.underlying2 cell_i64 h3 with ⟨hcs, -⟩ | ⟨a', l', c', zs, hcs, -⟩
    · simp at hcs; subst hcs; exact ⟨_, _, _, _, _, _, _, _, _, rfl⟩
    · simp at hcs; subst hcs; exact ⟨_, _, _, _, _, _, _, _, _, rfl⟩
theorem sized_its {fuel : Nat} {a : Option Addr} {len cap : Nat} {os : List X.It} {x : DataW H × List MemPlace} {R : Nat} (hv : ItsV w a len cap os) (h : DataW.trod enc Tryz.prog w base spare held fuel 23 [.slice a len cap] = some x) (hR : ∀ n ∈ x.1.weights Tryz.prog 23, n ≤ R) : ∀ r ∈ os, r.words.length * 8 ≤ R := by
  intro r hr
  obtain ⟨i, hi, rfl⟩ := List.getElem_of_mem hr
  rw [hv.count] at hi
  rcases Deep.open_slice Tryz.underlying23 h with ⟨hcs, -⟩ | ⟨a', len', cap', m, n, D, Pl, hcs, -, hl, hm, hmm, rfl, hx⟩
  · simp at hcs; omega
  · simp at hcs
    obtain ⟨rfl, rfl, rfl⟩ := hcs
    have him : i < m := by rw [hmm]; split <;> omega
    obtain ⟨cs', h1, h2⟩ := hx i him
    rw [cell_item] at h1
    obtain ⟨u0, u1, u2, u3, u4, u5, a1, l1, c1, rfl⟩ := trod_A0 h2
    rcases hv.cells with h0 | ⟨b, off, ha, hc⟩
    · omega
    obtain ⟨a2, l2, c2, -, -, -, -, -, -, k3, V⟩ := hc i hi
    obtain ⟨-, -, hxx⟩ := World.cells?_some h1
    cases ha
    have e3 := hxx 6 (by decide)
    rw [Addr.add_add, Addr.add_lit] at e3
    have e4 : some (Value.slice a2 l2 c2) = some (Value.slice a1 l1 c1) := by
      rw [← k3, ← Nat.add_assoc] at *
      exact e3
    cases e4
    have hlen : (os[i]'(by rw [hv.count]; exact hi)).words.length = l1 := by
      have := V.count
      simpa [List.getD, show i < os.length by rw [hv.count]; exact hi] using this
    rw [hlen]
    refine sized_A h2 (fun n hn => hR n ?_)
    simp only [DataW.weights, Tryz.underlying23, List.mem_cons, List.mem_append]
    exact Or.inr (Or.inl (weightsAll_of (List.mem_map.2 ⟨i, List.mem_range.2 hi, rfl⟩) n hn))
end
end Go.Proofs.YteakimepdnojdaaGreatDoor
