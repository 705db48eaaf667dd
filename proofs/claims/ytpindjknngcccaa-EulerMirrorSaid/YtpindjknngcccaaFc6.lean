/- Darts are sorted. -/
import Derived.Test.YtpindjknngcccaaShelf
import Derived.Test.YtpindjknngcccaaFcO
import Derived.Test.YtpindjknngcccaaFc4
import Derived.Shelf.SlSortCmp.NoneTotal
namespace Go.Proofs.Ytpindjknngcccaa
open Go.RowKit Go.Shelf Go.Lib Go.Sort
set_option linter.unusedSimpArgs false
set_option linter.unusedVariables false

def encD (x : D) : List Value := [.int .i64 x.1, .int .i64 x.2.1, .int .i64 x.2.2]
def cfD (x y : D) : Int := ordD x.1 x.2.1 x.2.2 y.1 y.2.1 y.2.2
theorem ltD (x y : D) : ltOf cfD x y = decide (cfD x y < 0) := rfl
theorem cfD_neg (x y : D) : cfD y x = - cfD x y := ordD_neg _ _ _ _ _ _
theorem cfD_zero (x y : D) : cfD x y = 0 ↔ x = y := by
  unfold cfD
  rw [ordD_zero]
  obtain ⟨a, b, c⟩ := x
  obtain ⟨d, e, f⟩ := y
  simp
theorem cfD_trans (x y z : D) (h : cfD x y ≤ 0) (k : cfD y z ≤ 0) : cfD x z ≤ 0 := ordD_trans _ _ _ _ _ _ _ _ _ h k
theorem swoD : SWO (ltOf cfD) where
  irrefl x := by
    rw [ltD]
    have := (cfD_zero x x).2 rfl
    simp; omega
  trans x y z h1 h2 := by
    rw [ltD] at *
    simp at *
    have a1 := cfD_trans x y z (by omega) (by omega)
    rcases Int.lt_or_eq_of_le a1 with q | q
    · exact q
    · exfalso
      obtain rfl := (cfD_zero x z).1 q
      have := cfD_neg x y
      omega
  ntrans x y z h1 h2 := by
    rw [ltD] at *
    simp at *
    have n1 := cfD_neg x y
    have n2 := cfD_neg y z
    have n3 := cfD_neg x z
    have a1 := cfD_trans z y x (by omega) (by omega)
    omega
theorem totD (x y : D) (h1 : ltOf cfD x y = false) (h2 : ltOf cfD y x = false) : x = y := by
  rw [ltD] at *
  simp at *
  have := cfD_neg x y
  exact (cfD_zero x y).1 (by omega)
def sortD (L : List D) : List D := L.mergeSort fun x y => !(ltOf cfD) y x
theorem dartsV_at (d : Array D) (t : Nat) (h : t < d.size * 3) : (dartsV d.toList)[t]? = some ((encD d[t / 3]!)[t % 3]!) := by
  have hk : t / 3 < d.toList.length := by simp; omega
  obtain ⟨g0, g1, g2⟩ := dartsV_get d.toList (t / 3) hk
  have e : d.toList.getD (t / 3) (0, 0, 0) = d[t / 3]! := by
    have h2 : t / 3 < d.size := by simpa using hk
    rw [List.getD_eq_getElem?_getD, getElem!_pos d _ h2]
    simp [h2]
  rw [e] at g0 g1 g2
  have hr : t % 3 = 0 ∨ t % 3 = 1 ∨ t % 3 = 2 := by omega
  rcases hr with hr | hr | hr
  · rw [hr, show t = t / 3 * 3 from by omega, show t / 3 * 3 / 3 = t / 3 from by omega]; exact g0
  · rw [hr]
    have : t = t / 3 * 3 + 1 := by omega
    rw [show (dartsV d.toList)[t]? = (dartsV d.toList)[t / 3 * 3 + 1]? from by rw [← this]]
    exact g1
  · rw [hr]
    have : t = t / 3 * 3 + 2 := by omega
    rw [show (dartsV d.toList)[t]? = (dartsV d.toList)[t / 3 * 3 + 2]? from by rw [← this]]
    exact g2
theorem holds_own {W : World} {lo n c g : Nat} (d : Array D) (h : W.ownsRow lo 39 3 (.slice (some ⟨g, 0, none⟩) n c) n (dartsV d.toList)) : HoldsK encD 3 W g 0 d := by
  intro j hj
  have hj' : j < d.size * 3 := by simpa using hj
  rw [get_flatK encD 3 d j hj', Nat.zero_add]
  have h1 := h.cells (g := g) rfl j _ (dartsV_at d j hj')
  rw [Addr.add_lit, Nat.zero_add] at h1
  refine ⟨h1, ?_⟩
  rcases h.2 with ⟨q, _⟩ | ⟨g', cap, cur, q1, q2, q3, q4⟩
  · cases q
  · cases q1
    simp [World.frozen?, q3]
theorem own_sorted {W : World} {lo n c g m : Nat} (d d' : Array D) (os : Array Obj) (h : W.ownsRow lo 39 3 (.slice (some ⟨g, 0, none⟩) n c) n (dartsV d.toList)) (hs : d'.size = d.size) :
    (sortWorldK encD 3 W g 0 m d' os).ownsRow lo 39 3 (.slice (some ⟨g, 0, none⟩) n c) n (dartsV d'.toList) ∧ W.grownBy (sortWorldK encD 3 W g 0 m d' os) (some g) := by
  have hH := holds_own d h
  have hlt := (h.lt g rfl).2
  have hl := h.1
  rw [dartsV_length, Array.length_toList] at hl
  have hgr : W.grownBy (sortWorldK encD 3 W g 0 m d' os) (some g) := by
    refine ⟨rfl, rfl, rfl, ?_, fun k hk hne => ?_⟩
    · simp [sortWorldK, putRowK, putRow, mapBlock, grow, ahead]
    · have hkg : k ≠ g := fun e => hne (by rw [e])
      show ((W.heap.modify g (onCells (putCells id 0 (flatK encD 3 d')))) ++ os)[k]? = W.heap[k]?
      rw [Array.getElem?_append_left (by simpa using hk), Array.getElem?_modify, if_neg (Ne.symm hkg)]
  refine ⟨?_, hgr⟩
  refine ⟨by rw [dartsV_length, Array.length_toList, hs]; exact hl, .inr ?_⟩
  rcases h.2 with ⟨q, _⟩ | ⟨g', cap, cur, q1, q2, q3, q4, q5, q6, q7⟩
  · cases q
  cases q1
  refine ⟨g, c, putCells id 0 (flatK encD 3 d') cur, rfl, q2, ?_, q4, q5, by simp [putCells, q6], ?_⟩
  · show ((W.heap.modify g (onCells (putCells id 0 (flatK encD 3 d')))) ++ os)[g]? = _
    rw [Array.getElem?_append_left (by simpa using hlt), Array.getElem?_modify, if_pos rfl, q3]
    rfl
  · apply List.ext_getElem?
    intro t
    by_cases ht : t < n * 3
    · have ht' : t < d'.size * 3 := by omega
      rw [dartsV_at d' t ht', List.getElem?_take, if_pos ht]
      have hcs : t < cur.size := by rw [q6]; have := Nat.mul_le_mul_right 3 q4; omega
      have hg := get_flatK encD 3 d' t ht'
      rw [getElem!_pos _ t (by simpa using ht')] at hg
      simp [putCells, hcs, ht']
      simpa using hg
    · rw [List.getElem?_eq_none (by simp; omega), List.getElem?_eq_none (by rw [dartsV_length, Array.length_toList]; omega)]
theorem sortD_any (L : List D) (lo n c : Nat) (A : Option Addr) (W : World) (h : W.ownsRow lo 39 3 (.slice A n c) n (dartsV L)) (hn : n < 4611686018427387904) :
    Calls Try.prog 81 #[.slice A n c, .func (.func 82) #[] #[]] W fun e w' => e = .returned (.tuple #[]) ∧ w'.ownsRow lo 39 3 (.slice A n c) n (dartsV (sortD L)) ∧ W.grownBy w' (Value.slice A n c).ownBlock := by
  have hl := h.1
  rw [dartsV_length] at hl
  have h2 := h.2
  rcases h2 with ⟨q, hn0⟩ | ⟨g, cap, cur, q1, q2, q3, q4, q5, q6, q7⟩
  · cases q
    have hL : L = [] := List.eq_nil_of_length_eq_zero (by omega)
    subst hL
    refine (AnyF.slices_SortFunc_none Try.sortD none 0 _ W).mono ?_
    rintro e w' ⟨rfl, rfl⟩
    exact ⟨rfl, (by first | exact h | simpa [sortD] using h), World.grownBy.refl _ _⟩
  · injection q1 with e1 e2 e3
    subst e1
    have hsz : L.toArray.size = n := by simp; omega
    have hcon := AnyQ.slices_SortFunc_total Try.sortD 3 Try.isAgg39 Try.sizeOf39 encD (fun _ => rfl) (fun x v hv => by simp [encD] at hv; rcases hv with rfl | rfl | rfl <;> rfl) cfD swoD 82 #[] g 0 c L.toArray W
      (enters_of Try.func82 (by kernel_rfl) rfl) (fun m os dk _ x y => by obtain ⟨a, b, e⟩ := x; obtain ⟨a2, b2, e2⟩ := y; exact orderdart_any_g a b e a2 b2 e2 _) (holds_own L.toArray h) (h.lt g rfl).2 (by rw [hsz]; exact hn) totD
    rw [hsz] at hcon
    refine hcon.mono ?_
    rintro e w' ⟨rfl, m, os, rfl⟩
    obtain ⟨r1, r2⟩ := own_sorted (m := m) L.toArray (sortD L).toArray os h (by simp [sortD])
    exact ⟨rfl, r1, r2⟩
end Go.Proofs.Ytpindjknngcccaa
