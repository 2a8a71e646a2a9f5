/- The image of what is laid and filled. -/
import Derived.Test.YtaoklmphcgigeaaLinkRows
import Derived.Test.YtaoklmphcgigeaaLinkPos
import Derived.Deep.AppendLies
import Derived.Deep.RegionLaw
namespace Go.Proofs.Ytaoklmphcgigeaa
open Go.RowKit Go.Lib
set_option linter.unusedVariables false
set_option linter.unusedSimpArgs false

/-- An answer's two rows: nobody else's, and not the same. -/
structure ImgR (x x' : World) (v1 v2 : Value) (ds : List Int) (ss : List Sym) : Prop where
  low : Below x.heap.size x x'
  d : x'.ownsRow x.heap.size 2 1 v1 ds.length (ds.flatMap intC)
  s : x'.ownsRow x.heap.size 36 3 v2 ss.length (ss.flatMap symC)
  ap : ∀ b, v1.ownBlock = some b → v2.ownBlock ≠ some b
def datas (os : List ObjD) : List Int := os.flatMap (·.data)
theorem datas_take {os : List ObjD} {k : Nat} {d : ObjD} (hk : os[k]? = some d) : datas (os.take (k + 1)) = datas (os.take k) ++ d.data := by
  obtain ⟨hlt, e⟩ := List.getElem?_eq_some_iff.1 hk
  unfold datas
  rw [List.take_succ_eq_append_getElem hlt, List.flatMap_append, e]
  simp
theorem syms_take {os : List ObjD} {k : Nat} {d : ObjD} (hk : os[k]? = some d) : L.syms (os.take (k + 1)) = L.syms (os.take k) ++ d.syms.map (L.moved (L.sizes (os.take k))) := by
  obtain ⟨hlt, e⟩ := List.getElem?_eq_some_iff.1 hk
  rw [List.take_succ_eq_append_getElem hlt, L.syms_snoc, e]
theorem datas_len : ∀ (l : List ObjD) (z : L.Sz), (datas l).length + z.d = (l.foldl L.grow z).d
  | [], z => by simp [datas]
  | o :: l, z => by
    have := datas_len l (L.grow z o)
    have h : (L.grow z o).d = z.d + o.data.length := rfl
    have e : datas (o :: l) = o.data ++ datas l := by simp [datas]
    rw [e, List.length_append, List.foldl_cons]
    omega
/-- The call's state: its rows (symbols, data), its boxes (the image, the answer). -/
def IS (x wq : World) (code : ByteArray) (v1 v2 : Value) (ds : List Int) (ss : List Sym) (more : List (Nat × List Value)) : Prop :=
  BS x wq [⟨36, 3, v2, ss.length, ss.flatMap symC⟩, ⟨2, 1, v1, ds.length, ds.flatMap intC⟩] ((x.heap.size + 1, [.string code, v1, v2]) :: (x.heap.size, [.string { data := #[] }, .slice none 0 0, .slice none 0 0]) :: more)
theorem IS.start (x : World) (code : ByteArray) : IS x ((x.alloc (.cells #[.string { data := #[] }, .slice none 0 0, .slice none 0 0] 29)).alloc (.cells #[.string code, .slice none 0 0, .slice none 0 0] 29)) code (.slice none 0 0) (.slice none 0 0) [] [] [] := by
  have h := (((((BS.start x).nil 2 1).nil 36 3).alloc #[.string { data := #[] }, .slice none 0 0, .slice none 0 0] 29)).alloc #[.string code, .slice none 0 0, .slice none 0 0] 29
  unfold IS
  simpa using h
theorem IS.below {x y z : World} {code : ByteArray} {v1 v2 : Value} {ds : List Int} {ss : List Sym} {more : List (Nat × List Value)} (h : IS x y code v1 v2 ds ss more) (hb : Below y.heap.size y z) : IS x z code v1 v2 ds ss more := BS.below h hb
theorem IS.pushD {x y z : World} {code : ByteArray} {v1 v2 v' : Value} {ds es : List Int} {ss : List Sym} {more : List (Nat × List Value)} {n : Nat} (h : IS x y code v1 v2 ds ss more) (hn : n = ds.length + es.length) (ho : z.ownsRow x.heap.size 2 1 v' n (ds.flatMap intC ++ es.flatMap intC)) (hg : y.grownBy z v1.ownBlock) (hat : ∀ g, v'.ownBlock = some g → v1.ownBlock = some g ∨ y.heap.size ≤ g) :
    IS x (z.setCell ⟨x.heap.size + 1, 1, none⟩ v') code v' v2 (ds ++ es) ss more := by
  have h1 := BS.push h (k := 1) rfl ho hg hat
  have h2 := h1.put 0 (x.heap.size + 1) _ rfl 1 (by simp) v'
  unfold IS
  subst hn
  simpa using h2
theorem IS.pushS {x y z : World} {code : ByteArray} {v1 v2 v' : Value} {ds : List Int} {ss : List Sym} {u : Sym} {more : List (Nat × List Value)} {n : Nat} (h : IS x y code v1 v2 ds ss more) (hn : n = ss.length + 1) (ho : z.ownsRow x.heap.size 36 3 v' n (ss.flatMap symC ++ symC u)) (hg : y.grownBy z v2.ownBlock) (hat : ∀ g, v'.ownBlock = some g → v2.ownBlock = some g ∨ y.heap.size ≤ g) :
    IS x (z.setCell ⟨x.heap.size + 1, 2, none⟩ v') code v1 v' ds (ss ++ [u]) more := by
  have h1 := BS.push h (k := 0) rfl ho hg hat
  have h2 := h1.put 0 (x.heap.size + 1) _ rfl 2 (by simp) v'
  unfold IS
  subst hn
  simpa using h2
theorem IS.cell {x y : World} {code : ByteArray} {v1 v2 : Value} {ds : List Int} {ss : List Sym} {more : List (Nat × List Value)} (h : IS x y code v1 v2 ds ss more) : (y.cell? ⟨x.heap.size + 1, 0, none⟩ = some (.string code) ∧ y.cell? ⟨x.heap.size + 1, 1, none⟩ = some v1 ∧ y.cell? ⟨x.heap.size + 1, 2, none⟩ = some v2) ∧ (∀ o, y.frozen? ⟨x.heap.size + 1, o, none⟩ = false) ∧ x.heap.size + 1 < y.heap.size := by
  obtain ⟨h1, h2, h3, -⟩ := BS.box h 0 _ rfl
  exact ⟨⟨h1 0 _ rfl, h1 1 _ rfl, h1 2 _ rfl⟩, h2, h3⟩
theorem IS.cellR {x y : World} {code : ByteArray} {v1 v2 : Value} {ds : List Int} {ss : List Sym} {more : List (Nat × List Value)} (h : IS x y code v1 v2 ds ss more) : (y.cell? ⟨x.heap.size, 0, none⟩ = some (.string { data := #[] }) ∧ y.cell? ⟨x.heap.size, 1, none⟩ = some (.slice none 0 0) ∧ y.cell? ⟨x.heap.size, 2, none⟩ = some (.slice none 0 0)) ∧ (∀ o, y.frozen? ⟨x.heap.size, o, none⟩ = false) := by
  obtain ⟨h1, h2, -, -⟩ := BS.box h 1 _ rfl
  exact ⟨⟨h1 0 _ rfl, h1 1 _ rfl, h1 2 _ rfl⟩, h2⟩
theorem IS.more {x y : World} {code : ByteArray} {v1 v2 : Value} {ds : List Int} {ss : List Sym} {q : Nat × List Value} (h : IS x y code v1 v2 ds ss [q]) : Cells y q.1 q.2 := (BS.box h 2 _ rfl).1
theorem own_slice {x : World} {B : Nat} {T : TypeId} {m n : Nat} {v : Value} {cs : List Value} (h : x.ownsRow B T m v n cs) : ∃ a c, v = .slice a n c := by
  rcases h.2 with ⟨rfl, rfl⟩ | ⟨g, cap, cur, rfl, -⟩
  · exact ⟨_, _, rfl⟩
  · exact ⟨_, _, rfl⟩
theorem IS.sl {x y : World} {code : ByteArray} {v1 v2 : Value} {ds : List Int} {ss : List Sym} {more : List (Nat × List Value)} (h : IS x y code v1 v2 ds ss more) : ∃ a1 c1 a2 c2, v1 = .slice a1 ds.length c1 ∧ v2 = .slice a2 ss.length c2 := by
  obtain ⟨a1, c1, h1⟩ := own_slice (BS.own h 1 _ rfl)
  obtain ⟨a2, c2, h2⟩ := own_slice (BS.own h 0 _ rfl)
  exact ⟨a1, c1, a2, c2, h1, h2⟩
theorem IS.drop {x y : World} {code : ByteArray} {v1 v2 : Value} {ds : List Int} {ss : List Sym} {q : Nat × List Value} (h : IS x y code v1 v2 ds ss [q]) : IS x y code v1 v2 ds ss [] := by
  unfold IS at *
  refine { low := h.low, own := h.own, dis := h.dis, box := fun m p hp => h.box m p ?_, far := fun m k p r hp hr => h.far m k p r ?_ hr, nd := fun m l p r hp hr hml => h.nd m l p r ?_ ?_ hml }
  all_goals first
    | (rcases m with - | - | m <;> simp at hp ⊢ <;> first | exact hp | assumption)
    | (rcases l with - | - | l <;> simp at hr ⊢ <;> first | exact hr | assumption)
theorem IS.put {x y : World} {code : ByteArray} {v1 v2 : Value} {ds : List Int} {ss : List Sym} (h : IS x y code v1 v2 ds ss []) (a : Array Value) (t : TypeId) : IS x (y.alloc (.cells a t)) code v1 v2 ds ss [(y.heap.size, a.toList)] := by
  have k := BS.alloc h a t
  unfold IS at *
  refine { low := k.low, own := k.own, dis := k.dis, box := fun m p hp => ?_, far := fun m n p r hp hr => ?_, nd := fun m l p q hp hq hml => ?_ }
  · rcases m with - | - | - | m
    · exact k.box 1 p (by simpa using hp)
    · exact k.box 2 p (by simpa using hp)
    · exact k.box 0 p (by simpa using hp)
    · simp at hp
  · rcases m with - | - | - | m
    · exact k.far 1 n p r (by simpa using hp) hr
    · exact k.far 2 n p r (by simpa using hp) hr
    · exact k.far 0 n p r (by simpa using hp) hr
    · simp at hp
  · have tr : ∀ m (p : Nat × List Value), ([(x.heap.size + 1, [Value.string code, v1, v2]), (x.heap.size, [.string { data := #[] }, .slice none 0 0, .slice none 0 0]), (y.heap.size, a.toList)] : List (Nat × List Value))[m]? = some p → m < 3 ∧ ([(y.heap.size, a.toList), (x.heap.size + 1, [Value.string code, v1, v2]), (x.heap.size, [.string { data := #[] }, .slice none 0 0, .slice none 0 0])] : List (Nat × List Value))[(m + 1) % 3]? = some p := fun m p hp => by
      rcases m with - | - | - | m
      · exact ⟨by omega, hp⟩
      · exact ⟨by omega, hp⟩
      · exact ⟨by omega, hp⟩
      · simp at hp
    obtain ⟨m1, m2⟩ := tr m p hp
    obtain ⟨l1, l2⟩ := tr l q hq
    exact k.nd _ _ p q m2 l2 (by omega)
end Go.Proofs.Ytaoklmphcgigeaa
