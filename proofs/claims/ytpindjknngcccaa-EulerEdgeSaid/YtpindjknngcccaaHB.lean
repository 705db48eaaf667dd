/- Several texts in one. -/
import Derived.Test.YtpindjknngcccaaFc4
import Derived.Test.YtpindjknngcccaaDart
import Derived.Shelf.SlSortCmp.WholeK
import Derived.Test.YtpindjknngcccaaShelf
import Derived.Shelf.SlSortCmp.NoneTotal

/- Share. -/
namespace Go.Proofs.Ytpindjknngcccaa
open Go.RowKit
set_option linter.unusedSimpArgs false
set_option linter.unusedVariables false


attribute [local go_sem] Oper.semAt_some

end Go.Proofs.Ytpindjknngcccaa

/- ident.OrderDart lays blocks alone. -/
namespace Go.Proofs.Ytpindjknngcccaa
open Go.RowKit Go.Shelf Go.Lib Go.Sort
/-- Blocks alone are laid. -/
def GrW (w w' : World) : Prop := ∃ q os, w' = grow (w.drewN q) os
def PureGw (k : FuncId) (args : Array Value) (v : Value) : Prop := ∀ w : World, Calls Try.prog k args w fun e w' => e = .returned v ∧ GrW w w'
theorem gr2 (w : World) (o o' : Obj) : GrW w ((w.alloc o).alloc o') := ⟨0, _, by rw [alloc_eq_grow, alloc_eq_grow, grow_grow]; rfl⟩
theorem GrW.below {w w' : World} (h : GrW w w') : Below w.heap.size w w' := by
  obtain ⟨q, os, rfl⟩ := h
  refine ⟨rfl, rfl, rfl, ?_, fun k hk => ?_⟩
  · simp [grow, World.drewN]
  · simp [grow, World.drewN, Array.getElem?_append, hk]
theorem gr_after2 {w w' : World} {o o' : Obj} (h : GrW ((w.alloc o).alloc o') w') : GrW w w' := by
  obtain ⟨q, os, rfl⟩ := h
  refine ⟨q, (#[o] ++ #[o']) ++ os, ?_⟩
  rw [alloc_eq_grow, alloc_eq_grow, grow_grow, show (grow w (#[o] ++ #[o'])).drewN q = grow (w.drewN q) (#[o] ++ #[o']) from rfl, grow_grow]
theorem order_same_g (s n : Int) (w : World) :
    Calls Try.prog 71 #[.agg #[.int .i64 s, .int .i64 n], .agg #[.int .i64 s, .int .i64 n]] w fun e w' => e = .returned (.int .i64 0) ∧ GrW w w' := by
  go_enter Try.func71, Try.ntmps71
  go_wp2
  go_ret
  exact ⟨rfl, gr2 _ _ _⟩

theorem order_site_lt_g (s n s' n' : Int) (w : World) (h : s < s') :
    Calls Try.prog 71 #[.agg #[.int .i64 s, .int .i64 n], .agg #[.int .i64 s', .int .i64 n']] w fun e w' => e = .returned (.int .i64 (-1)) ∧ GrW w w' := by
  have h1 : (s == s') = false := by simp; omega
  have h2 : (s != s') = true := by simp; omega
  go_enter Try.func71, Try.ntmps71
  go_wp2
  go_ret
  exact ⟨rfl, gr2 _ _ _⟩

theorem order_site_gt_g (s n s' n' : Int) (w : World) (h : s' < s) :
    Calls Try.prog 71 #[.agg #[.int .i64 s, .int .i64 n], .agg #[.int .i64 s', .int .i64 n']] w fun e w' => e = .returned (.int .i64 1) ∧ GrW w w' := by
  have h1 : (s == s') = false := by simp; omega
  have h2 : (s != s') = true := by simp; omega
  have h3 : ¬ s < s' := by omega
  go_enter Try.func71, Try.ntmps71
  go_wp2
  go_ret
  exact ⟨rfl, gr2 _ _ _⟩

theorem order_n_lt_g (s n n' : Int) (w : World) (h : n < n') :
    Calls Try.prog 71 #[.agg #[.int .i64 s, .int .i64 n], .agg #[.int .i64 s, .int .i64 n']] w fun e w' => e = .returned (.int .i64 (-1)) ∧ GrW w w' := by
  have h1 : (n == n') = false := by simp; omega
  go_enter Try.func71, Try.ntmps71
  go_wp2
  go_ret
  exact ⟨rfl, gr2 _ _ _⟩

theorem order_n_gt_g (s n n' : Int) (w : World) (h : n' < n) :
    Calls Try.prog 71 #[.agg #[.int .i64 s, .int .i64 n], .agg #[.int .i64 s, .int .i64 n']] w fun e w' => e = .returned (.int .i64 1) ∧ GrW w w' := by
  have h1 : (n == n') = false := by simp; omega
  have h3 : ¬ n < n' := by omega
  go_enter Try.func71, Try.ntmps71
  go_wp2
  go_ret
  exact ⟨rfl, gr2 _ _ _⟩

theorem order_any_g (s n s' n' : Int) : PureGw 71 #[.agg #[.int .i64 s, .int .i64 n], .agg #[.int .i64 s', .int .i64 n']] (.int .i64 (ordI s n s' n')) := fun w => by
  unfold ordI cmpI
  by_cases e : s = s'
  · subst e
    rw [if_pos rfl]
    by_cases h1 : n < n'
    · rw [if_pos h1]; exact order_n_lt_g s n n' w h1
    · rw [if_neg h1]
      by_cases h2 : n' < n
      · rw [if_pos h2]; exact order_n_gt_g s n n' w h2
      · rw [if_neg h2]
        obtain rfl : n = n' := by omega
        exact order_same_g s n w
  · rw [if_neg e]
    by_cases h1 : s < s'
    · rw [if_pos h1]; exact order_site_lt_g s n s' n' w h1
    · rw [if_neg h1, if_pos (by omega)]
      exact order_site_gt_g s n s' n' w (by omega)
theorem orderdart_edge_g (s n c s' n' c' : Int) (w : World) (h : ¬ (s = s' ∧ n = n')) :
    Calls Try.prog 82 #[.agg #[.int .i64 s, .int .i64 n, .int .i64 c], .agg #[.int .i64 s', .int .i64 n', .int .i64 c']] w fun e w' => e = .returned (.int .i64 (ordI s n s' n')) ∧ GrW w w' := by
  have hm := Lib.hid (order_any_g s n s' n')
  by_cases h0 : s = s'
  · subst h0
    have h1 : (n == n') = false := by simpa using fun e => h ⟨rfl, e⟩
    clear h
    go_enter Try.func82, Try.ntmps82
    go_wp2_with (first | (go_at_call 71; refine (hm.out _).mono ?_; rintro e w' ⟨rfl, hb⟩; obtain ⟨hc, hf⟩ := bcell hb.below))
    go_ret
    exact ⟨rfl, gr_after2 hb⟩
  · have h1 : (s == s') = false := by simpa using h0
    clear h
    go_enter Try.func82, Try.ntmps82
    go_wp2_with (first | (go_at_call 71; refine (hm.out _).mono ?_; rintro e w' ⟨rfl, hb⟩; obtain ⟨hc, hf⟩ := bcell hb.below))
    go_ret
    exact ⟨rfl, gr_after2 hb⟩

theorem orderdart_side_g (s n c c' : Int) (w : World) :
    Calls Try.prog 82 #[.agg #[.int .i64 s, .int .i64 n, .int .i64 c], .agg #[.int .i64 s, .int .i64 n, .int .i64 c']] w fun e w' => e = .returned (.int .i64 (cmpI c c')) ∧ GrW w w' := by
  unfold cmpI
  by_cases h1 : c < c'
  · rw [if_pos h1]
    go_enter Try.func82, Try.ntmps82
    go_wp2
    go_ret
    exact ⟨rfl, gr2 _ _ _⟩
  · rw [if_neg h1]
    by_cases h2 : c' < c
    · rw [if_pos h2]
      go_enter Try.func82, Try.ntmps82
      go_wp2
      go_ret
      exact ⟨rfl, gr2 _ _ _⟩
    · rw [if_neg h2]
      go_enter Try.func82, Try.ntmps82
      go_wp2
      go_ret
      exact ⟨rfl, gr2 _ _ _⟩

theorem orderdart_any_g (s n c s' n' c' : Int) : PureGw 82 #[.agg #[.int .i64 s, .int .i64 n, .int .i64 c], .agg #[.int .i64 s', .int .i64 n', .int .i64 c']] (.int .i64 (ordD s n c s' n' c')) := fun w => by
  unfold ordD
  by_cases h : s = s' ∧ n = n'
  · rw [if_pos h]
    obtain ⟨rfl, rfl⟩ := h
    exact orderdart_side_g s n c c' w
  · rw [if_neg h]
    exact orderdart_edge_g s n c s' n' c' w h

end Go.Proofs.Ytpindjknngcccaa

/- Darts are sorted. -/
namespace Go.Proofs.Ytpindjknngcccaa
open Go.RowKit Go.Shelf Go.Lib Go.Sort
set_option linter.unusedSimpArgs false
set_option linter.unusedVariables false

def encD (x : D) : List Value := [.int .i64 x.1, .int .i64 x.2.1, .int .i64 x.2.2]
def cfD (x y : D) : Int := ordD x.1 x.2.1 x.2.2 y.1 y.2.1 y.2.2
theorem ltD (x y : D) : ltOf cfD x y = decide (cfD x y < 0) := rfl
theorem cfD_neg (x y : D) : cfD y x = - cfD x y := ordD_neg _ _ _ _ _ _
theorem cfD_zero (x y : D) : cfD x y = 0 ↔ x = y := by
  unfold cfD
  rw [ordD_zero]
  obtain ⟨a, b, c⟩ := x
  obtain ⟨d, e, f⟩ := y
  simp
theorem cfD_trans (x y z : D) (h : cfD x y ≤ 0) (k : cfD y z ≤ 0) : cfD x z ≤ 0 := ordD_trans _ _ _ _ _ _ _ _ _ h k
theorem swoD : SWO (ltOf cfD) where
  irrefl x := by
    rw [ltD]
    have := (cfD_zero x x).2 rfl
    simp; omega
  trans x y z h1 h2 := by
    rw [ltD] at *
    simp at *
    have a1 := cfD_trans x y z (by omega) (by omega)
    rcases Int.lt_or_eq_of_le a1 with q | q
    · exact q
    · exfalso
      obtain rfl := (cfD_zero x z).1 q
      have := cfD_neg x y
      omega
  ntrans x y z h1 h2 := by
    rw [ltD] at *
    simp at *
    have n1 := cfD_neg x y
    have n2 := cfD_neg y z
    have n3 := cfD_neg x z
    have a1 := cfD_trans z y x (by omega) (by omega)
    omega
theorem totD (x y : D) (h1 : ltOf cfD x y = false) (h2 : ltOf cfD y x = false) : x = y := by
  rw [ltD] at *
  simp at *
  have := cfD_neg x y
  exact (cfD_zero x y).1 (by omega)
def sortD (L : List D) : List D := L.mergeSort fun x y => !(ltOf cfD) y x
theorem dartsV_at (d : Array D) (t : Nat) (h : t < d.size * 3) : (dartsV d.toList)[t]? = some ((encD d[t / 3]!)[t % 3]!) := by
  have hk : t / 3 < d.toList.length := by simp; omega
  obtain ⟨g0, g1, g2⟩ := dartsV_get d.toList (t / 3) hk
  have e : d.toList.getD (t / 3) (0, 0, 0) = d[t / 3]! := by
    have h2 : t / 3 < d.size := by simpa using hk
    rw [List.getD_eq_getElem?_getD, getElem!_pos d _ h2]
    simp [h2]
  rw [e] at g0 g1 g2
  have hr : t % 3 = 0 ∨ t % 3 = 1 ∨ t % 3 = 2 := by omega
  rcases hr with hr | hr | hr
  · rw [hr, show t = t / 3 * 3 from by omega, show t / 3 * 3 / 3 = t / 3 from by omega]; exact g0
  · rw [hr]
    have : t = t / 3 * 3 + 1 := by omega
    rw [show (dartsV d.toList)[t]? = (dartsV d.toList)[t / 3 * 3 + 1]? from by rw [← this]]
    exact g1
  · rw [hr]
    have : t = t / 3 * 3 + 2 := by omega
    rw [show (dartsV d.toList)[t]? = (dartsV d.toList)[t / 3 * 3 + 2]? from by rw [← this]]
    exact g2
theorem holds_own {W : World} {lo n c g : Nat} (d : Array D) (h : W.ownsRow lo 39 3 (.slice (some ⟨g, 0, none⟩) n c) n (dartsV d.toList)) : HoldsK encD 3 W g 0 d := by
  intro j hj
  have hj' : j < d.size * 3 := by simpa using hj
  rw [get_flatK encD 3 d j hj', Nat.zero_add]
  have h1 := h.cells (g := g) rfl j _ (dartsV_at d j hj')
  rw [Addr.add_lit, Nat.zero_add] at h1
  refine ⟨h1, ?_⟩
  rcases h.2 with ⟨q, _⟩ | ⟨g', cap, cur, q1, q2, q3, q4⟩
  · cases q
  · cases q1
    simp [World.frozen?, q3]
theorem own_sorted {W : World} {lo n c g m : Nat} (d d' : Array D) (os : Array Obj) (h : W.ownsRow lo 39 3 (.slice (some ⟨g, 0, none⟩) n c) n (dartsV d.toList)) (hs : d'.size = d.size) :
    (sortWorldK encD 3 W g 0 m d' os).ownsRow lo 39 3 (.slice (some ⟨g, 0, none⟩) n c) n (dartsV d'.toList) ∧ W.grownBy (sortWorldK encD 3 W g 0 m d' os) (some g) := by
  have hH := holds_own d h
  have hlt := (h.lt g rfl).2
  have hl := h.1
  rw [dartsV_length, Array.length_toList] at hl
  have hgr : W.grownBy (sortWorldK encD 3 W g 0 m d' os) (some g) := by
    refine ⟨rfl, rfl, rfl, ?_, fun k hk hne => ?_⟩
    · simp [sortWorldK, putRowK, putRow, mapBlock, grow, ahead]
    · have hkg : k ≠ g := fun e => hne (by rw [e])
      show ((W.heap.modify g (onCells (putCells id 0 (flatK encD 3 d')))) ++ os)[k]? = W.heap[k]?
      rw [Array.getElem?_append_left (by simpa using hk), Array.getElem?_modify, if_neg (Ne.symm hkg)]
  refine ⟨?_, hgr⟩
  refine ⟨by rw [dartsV_length, Array.length_toList, hs]; exact hl, .inr ?_⟩
  rcases h.2 with ⟨q, _⟩ | ⟨g', cap, cur, q1, q2, q3, q4, q5, q6, q7⟩
  · cases q
  cases q1
  refine ⟨g, c, putCells id 0 (flatK encD 3 d') cur, rfl, q2, ?_, q4, q5, by simp [putCells, q6], ?_⟩
  · show ((W.heap.modify g (onCells (putCells id 0 (flatK encD 3 d')))) ++ os)[g]? = _
    rw [Array.getElem?_append_left (by simpa using hlt), Array.getElem?_modify, if_pos rfl, q3]
    rfl
  · apply List.ext_getElem?
    intro t
    by_cases ht : t < n * 3
    · have ht' : t < d'.size * 3 := by omega
      rw [dartsV_at d' t ht', List.getElem?_take, if_pos ht]
      have hcs : t < cur.size := by rw [q6]; have := Nat.mul_le_mul_right 3 q4; omega
      have hg := get_flatK encD 3 d' t ht'
      rw [getElem!_pos _ t (by simpa using ht')] at hg
      simp [putCells, hcs, ht']
      simpa using hg
    · rw [List.getElem?_eq_none (by simp; omega), List.getElem?_eq_none (by rw [dartsV_length, Array.length_toList]; omega)]
theorem sortD_any (L : List D) (lo n c : Nat) (A : Option Addr) (W : World) (h : W.ownsRow lo 39 3 (.slice A n c) n (dartsV L)) (hn : n < 4611686018427387904) :
    Calls Try.prog 81 #[.slice A n c, .func (.func 82) #[] #[]] W fun e w' => e = .returned (.tuple #[]) ∧ w'.ownsRow lo 39 3 (.slice A n c) n (dartsV (sortD L)) ∧ W.grownBy w' (Value.slice A n c).ownBlock := by
  have hl := h.1
  rw [dartsV_length] at hl
  have h2 := h.2
  rcases h2 with ⟨q, hn0⟩ | ⟨g, cap, cur, q1, q2, q3, q4, q5, q6, q7⟩
  · cases q
    have hL : L = [] := List.eq_nil_of_length_eq_zero (by omega)
    subst hL
    refine (AnyF.slices_SortFunc_none Try.sortD none 0 _ W).mono ?_
    rintro e w' ⟨rfl, rfl⟩
    exact ⟨rfl, (by first | exact h | simpa [sortD] using h), World.grownBy.refl _ _⟩
  · injection q1 with e1 e2 e3
    subst e1
    have hsz : L.toArray.size = n := by simp; omega
    have hcon := AnyQ.slices_SortFunc_total Try.sortD 3 Try.isAgg39 Try.sizeOf39 encD (fun _ => rfl) (fun x v hv => by simp [encD] at hv; rcases hv with rfl | rfl | rfl <;> rfl) cfD swoD 82 #[] g 0 c L.toArray W
      (enters_of Try.func82 (by kernel_rfl) rfl) (fun m os dk _ x y => by obtain ⟨a, b, e⟩ := x; obtain ⟨a2, b2, e2⟩ := y; exact orderdart_any_g a b e a2 b2 e2 _) (holds_own L.toArray h) (h.lt g rfl).2 (by rw [hsz]; exact hn) totD
    rw [hsz] at hcon
    refine hcon.mono ?_
    rintro e w' ⟨rfl, m, os, rfl⟩
    obtain ⟨r1, r2⟩ := own_sorted (m := m) L.toArray (sortD L).toArray os h (by simp [sortD])
    exact ⟨rfl, r1, r2⟩
end Go.Proofs.Ytpindjknngcccaa

/- All darts. -/
namespace Go.Proofs.Ytpindjknngcccaa
open Go.RowKit
set_option linter.unusedSimpArgs false
set_option linter.unusedVariables false


/-- The darts of the first j vertices. -/
def dsV (L : List VC) : List D := L.flatMap (·.2.1.2.2.2)
theorem dsV_next (L : List VC) (j : Nat) (x : VC) (h : L[j]? = some x) : dsV (L.take (j + 1)) = dsV (L.take j) ++ x.2.1.2.2.2 := by
  unfold dsV
  rw [List.take_add_one, h, List.flatMap_append]
  simp
theorem dsV_len (L : List VC) (h : ∀ x ∈ L, x.2.1.2.2.2.length ≤ 1000000) : (dsV L).length ≤ L.length * 1000000 := by
  induction L with
  | nil => simp [dsV]
  | cons v L ih =>
    have h1 := h v (List.mem_cons_self ..)
    have h2 := ih (fun x hx => h x (List.mem_cons_of_mem _ hx))
    unfold dsV at *
    rw [List.flatMap_cons, List.length_append, List.length_cons]
    omega
set_option maxRecDepth 100000 in
set_option maxHeartbeats 4000000 in
theorem darts_any (A : Option Addr) (n c : Nat) (Vs : List VC) (B : Option Addr) (m k : Nat) (Es : List EC) (w : World) (h : DgIn w A n c Vs B m k Es) (hn : n ≤ 1000000) (hr : ∀ x ∈ Vs, x.2.1.2.1 ≤ 1000000) :
    Calls Try.prog 65 #[.agg #[.slice A n c, .slice B m k]] w fun e w' => ∃ A' c', e = .returned (.slice A' (dsV Vs).length c') ∧ w'.ownsRow (w.heap.size + 1) 39 3 (.slice A' (dsV Vs).length c') (dsV Vs).length (dartsV (sortD (dsV Vs))) ∧ Below w.heap.size w w' := by
  have HV := Lib.hid h.v
  have HRg := Lib.hid h.r
  have Hlv := Lib.hid (h.v.rlen vC_len (by decide))
  have Hhr := Lib.hid hr
  obtain ⟨i0, hi, hz0, hz1, hz2⟩ := info_partsD info_dartD
  clear h hr
  go_enter Try.func65, Try.ntmps65
  go_upto_region 2 with fail
  have hx0 : Whole (w.alloc (.cells #[.slice A n c, .slice B m k] 25)) (w.heap.size) 25 [.slice A n c, .slice B m k] := (Whole.new_ w 25 [.slice A n c, .slice B m k])
  have hbl : Below w.heap.size w (w.alloc (.cells #[.slice A n c, .slice B m k] 25)) := (below1 w (.cells #[.slice A n c, .slice B m k] 25))
  have hsz : w.heap.size + 1 ≤ ((w.alloc (.cells #[.slice A n c, .slice B m k] 25))).heap.size := by simp
  obtain ⟨W0, gW0⟩ : ∃ z, (w.alloc (.cells #[.slice A n c, .slice B m k] 25)) = z := ⟨_, rfl⟩
  rw [gW0] at hx0 hbl hsz
  obtain ⟨b0, gb0⟩ : ∃ z, w.heap.size = z := ⟨_, rfl⟩
  rw [gb0] at hx0
  have HX0 := Lib.hid hx0
  have HB0 := Lib.hid hbl
  have HS0 := Lib.hid hsz
  have Gb0 := Lib.hid gb0
  have Lb0 : RowKit.Hid (w.heap.size ≤ b0) := Lib.hid (by omega)
  rw [gW0, gb0]
  clear gW0 hbl hsz hx0 gb0
  have HO0 : RowKit.Hid (Ow w (b0 + 1) 39 3 (.slice none 0 0) (dsV (Vs.take 0)).length (dartsV (dsV (Vs.take 0))) W0) := Lib.hid (Ow.nil_ HB0.out (by have := Gb0.out; omega) (by have := HS0.out; have := Gb0.out; omega))
  have c0 := HX0.out.cell (i := 0) rfl
  have HGb := Gb0
  go_wp2
  clear c0
  go_loopw [3, 9] (fun v si wr => ∃ j : Nat, j ≤ n ∧ si = .int .i64 j ∧ RowKit.Hid (Ow w (b0 + 1) 39 3 v (dsV (Vs.take j)).length (dartsV (dsV (Vs.take j))) wr)) (fun _ si _ => n - (intOf si).toNat)
  case atStart => exact ⟨0, by omega, rfl, HO0⟩
  case round =>
    clear HO0
    obtain ⟨j, hj, rfl, HO⟩ := hrel
    obtain ⟨wo, gwo⟩ : ∃ z, wr = z := ⟨_, rfl⟩
    rw [gwo] at HO ⊢
    clear gwo
    by_cases hjn : j < n
    · obtain ⟨v, hx⟩ : ∃ v, Vs[j]? = some v := ⟨_, List.getElem?_eq_getElem (by have := Hlv.out; omega)⟩
      have hnx := dsV_next Vs j v hx
      have hvm := List.mem_of_getElem? hx
      have hrg := HRg.out v hvm
      have hrn := Hhr.out v hvm
      have hbd : (dsV (Vs.take j)).length ≤ j * 1000000 := by
        have q := dsV_len (Vs.take j) (fun x hx => by have q1 := Hhr.out x (List.mem_of_mem_take hx); have q2 := (HRg.out x (List.mem_of_mem_take hx)).2.dlen; omega)
        rw [List.length_take] at q
        exact Nat.le_trans q (Nat.mul_le_mul_right _ (Nat.min_le_left _ _))
      obtain ⟨bb, off, rfl, hbB, hpl⟩ := HV.out.place vC_len (by decide) (by omega)
      have HBo : RowKit.Hid (Below w.heap.size w wo) := Lib.hid HO.out.below
      have hbw := HBo.out
      have q0 := hpl j _ hx 0 _ rfl
      have q1 := hpl j _ hx 1 _ rfl
      have q2 := hpl j _ hx 2 _ rfl
      have q3 := hpl j _ hx 3 _ rfl
      have q4 := hpl j _ hx 4 _ rfl
      simp only [Addr.add_lit, Nat.add_zero] at q0 q1 q2 q3 q4
      have l0 := (hbw.cell (p := ⟨bb, off + j * 5, none⟩) hbB).trans q0
      have l1 := (hbw.cell (p := ⟨bb, off + j * 5 + 1, none⟩) hbB).trans q1
      have l2 := (hbw.cell (p := ⟨bb, off + j * 5 + 2, none⟩) hbB).trans q2
      have l3 := (hbw.cell (p := ⟨bb, off + j * 5 + 3, none⟩) hbB).trans q3
      have l4 := (hbw.cell (p := ⟨bb, off + j * 5 + 4, none⟩) hbB).trans q4
      clear hbw q0 q1 q2 q3 q4
      obtain ⟨⟨i1, i2⟩, ⟨rA, rn, rc, rL⟩, lb, at_⟩ := v
      replace hrn : rn ≤ 1000000 := hrn
      have HR : RowKit.Hid (RdS w w.heap.size 3 rA rn rc (dartsV rL)) := Lib.hid hrg.2
      have hlr : rL.length = rn := HR.out.dlen
      have HNx := Lib.hid hnx
      have hln : (dsV (Vs.take (j + 1))).length = (dsV (Vs.take j)).length + rn := by rw [hnx, List.length_append]; show _ + rL.length = _; rw [hlr]
      have HLn := Lib.hid hln
      have HL1 := Lib.hid hlr
      obtain ⟨s, gs⟩ : ∃ z, (dsV (Vs.take j)).length = z := ⟨_, rfl⟩
      rw [gs] at HO hbd HLn
      clear hx hpl hbB hnx hln gs hrg hlr
      go_wp2_with (first
        | (at_builtin
           refine wpList_push2 rfl (.tmp 13) (.tmp 15) _ rfl _ 39 i0 _ 3 24 Try.underlying40 hi hz0 hz1 hz2 rfl (by decide) _ _ _ rfl (by exact HO.out.up (below1 _ _)) w.heap.size rA rn rc (dartsV rL) rfl (by exact (HR.out.up (bel_al HBo.out _) (Nat.le_refl _))) (dartsV_one rL) (by unfold maxLen; omega) (by omega) ?_
           intro v1 w1 how1 hb1 hgr
           have HO1 : RowKit.Hid (Ow w (b0 + 1) 39 3 v1 (dsV (Vs.take (j + 1))).length (dartsV (dsV (Vs.take (j + 1)))) w1) := Lib.hid (by
             rw [HLn.out, HNx.out, dartsV_app]
             exact how1)
           clear how1 hb1 hgr))
      go_roundw
      case rel => exact ⟨j + 1, by omega, by go_num, HO1⟩
      case measure => simp [intOf] <;> omega
    · obtain rfl : n = j := by omega
      have ho := HO.out
      rw [List.take_of_length_le (by have := Hlv.out; omega)] at ho
      have hbd : (dsV Vs).length ≤ n * 1000000 := by
        have q := dsV_len Vs (fun x hx => by have q1 := Hhr.out x hx; have q2 := (HRg.out x hx).2.dlen; omega)
        rw [Hlv.out] at q
        exact q
      obtain ⟨A', c', rfl, -⟩ := ho.rds
      have HSo := Lib.hid (sortD_any (dsV Vs) _ _ _ A' wo ho.own (by omega))
      have HBo := Lib.hid ho.below
      have hlt := ho.own.lt
      have Hlt : RowKit.Hid (∀ g, (Value.slice A' (dsV Vs).length c').ownBlock = some g → w.heap.size ≤ g) := Lib.hid (fun g e => by have := (hlt g e).1; have := Gb0.out; omega)
      have HFin : RowKit.Hid (b0 + 1 = w.heap.size + 1) := Lib.hid (by rw [← Gb0.out])
      clear HO ho hlt
      go_wp2_with (go_at_call 81; refine HSo.out.mono ?_; rintro e w' ⟨rfl, h1, h2⟩; have H1 := Lib.hid h1; have H2 := Lib.hid h2; clear h1 h2)
      go_ret
      exact ⟨A', c', rfl, by rw [← HFin.out]; exact H1.out, HBo.out.grown H2.out HBo.out.size (fun g e => Hlt.out g e)⟩
end Go.Proofs.Ytpindjknngcccaa
