/- Held: the numbers, sorted, over the library's contracts. -/
import Derived.Test.YthfngmlnmpbcpaaRv1
import Derived.Test.YthfngmlnmpbcpaaShelf
namespace Go.Proofs.Ythfngmlnmpbcpaa
open Go.RowKit Go.Maps Go.Shelf Go.Sort
set_option linter.unusedSimpArgs false
set_option linter.unusedVariables false

theorem sortsA (m : Nat) : AnyZI.SortsIn Try.prog Try.sortedA_ren Fence.wide m :=
  ⟨fun blk off cap ss W hH hblk hsz => callsIn_wide.2 (AnyM.slices_Sort_int Try.sortA blk off cap ss W hH hblk hsz),
   fun p cap W => callsIn_wide.2 (AnyM.slices_Sort_int_none Try.sortA p cap W)⟩
/-- The numbers as ints. -/
def nums17 (HL : List HE) : List Int := HL.map (fun e : HE => (e.1 : Int))
theorem nums17_rise {HL : List HE} (h : HL.Pairwise (fun p q => p.1 < q.1)) : (nums17 HL).Pairwise (· < ·) := List.pairwise_map.2 (h.imp fun {a b} h => by omega)
theorem rowsV_enc (l : List Int) : rowsV intC l = l.map encZ := by
  induction l with
  | nil => rfl
  | cons a l ih => simp [rowsV, intC, encZ] at ih ⊢; exact ih
set_option maxRecDepth 100000 in
set_option maxHeartbeats 1000000 in
theorem rv_held {B : Nat} {g win got bm n : Nat} {D : DataW Value} {HL : List HE} (w : World) (h : RvIn B w g win got bm n D HL) (hn : n ≤ 100000) :
    Calls Try.prog 32 #[.pointer (some ⟨g, 0, none⟩)] w fun e w' => ∃ A c, e = .returned (.slice A HL.length c) ∧ RdS w' w'.heap.size 1 A HL.length c (rowsV intC (nums17 HL)) ∧ (∀ a, A = some a → w.heap.size ≤ a.block) ∧ Below w.heap.size w w' := by
  refine (callsIn_wide (n := 6)).1 ?_
  have hbl := h.map.lt
  have hszD := sizeD h.map
  have hmax : Maps.size D ≤ maxLen := by unfold maxLen; omega
  have hseq : SeqGives Fence.wide 2 Try.prog 41 #[.pointer (some ⟨w.heap.size, 0, none⟩)] encZ (fun ss => ss.Perm (intKeys D)) (Maps.size D) (w.alloc (.cells #[.map (some bm)] 67)) :=
    AnyZI.keys_gives (ρ := Try.keysA_ren) { Try.keysA with } Fence.wide _ trivial rfl (by omega) w.heap.size bm n D _ (by simp) (by simp) (h.map.below (below1 w (.cells #[.map (some bm)] 67)))
  have cK : ∀ mb W, CallsIn Fence.wide 5 Try.prog 38 #[.map mb] W fun e w' => e = .returned (.func (.func 41) #[] #[.pointer (some ⟨W.heap.size, 0, none⟩)]) ∧ w' = W.alloc (.cells #[.map mb] 67) := fun mb W => AnyZI.keys_in Try.keysA Fence.wide 5 trivial rfl mb W
  have cS := AnyZI.sorted_in Try.sortedA Fence.wide 5 trivial trivial trivial trivial rfl (by omega) (sortsA _) (enters_of Try.func40 (by kernel_rfl) rfl) 41 #[.pointer (some ⟨w.heap.size, 0, none⟩)] trivial (enters_of Try.func41 (by kernel_rfl) rfl) _ _ hmax (by omega) _ hseq
  change CallsIn _ _ Try.prog 37 _ _ _ at cS
  have hfK : Fence.wide.fn 38 := trivial
  have hfS : Fence.wide.fn 37 := trivial
  have l2 := h.box.cell (i := 2) rfl
  have HH := Lib.hid h
  clear h hmax hszD hseq
  refine callsIn_of_wp Try.func32 rfl trivial ?_ rfl
  simp only [Try.ntmps32, List.size_toArray, List.length_cons, List.length_nil, Nat.reduceAdd, Nat.reduceSub, Array.replicate_succ, Array.replicate_zero, List.push_toArray, List.append_toArray, List.nil_append, List.cons_append]
  gi_wp2_with (first
    | (gi_at_call 38; refine (cK _ _).mono ?_; rintro e w' ⟨rfl, rfl⟩)
    | (gi_at_call 37; refine cS.mono ?_; rintro e w' ⟨v, ss, rfl, hS, hrow, hnil, hb⟩))
  go_ret
  have hsl := HH.out.map.sorts Try.underlying3 (nums17_rise HH.out.rise) (fun x => by rw [HH.out.has_ x, nums17, List.mem_map]) hS
  have hlen : ss.length = HL.length := by
    have := congrArg List.length hsl
    rw [List.length_mergeSort] at this
    simpa [nums17] using this
  rw [hsl, hlen] at hrow
  obtain ⟨A, c, rfl, hr⟩ := RdS.of_own hrow
  rw [← rowsV_enc] at hr
  refine ⟨A, c, rfl, hr, fun a ha => ?_, ((Below.refl _ w).alloc (Nat.le_refl _) _).trans (hb.mono (by simp))⟩
  subst ha
  have h1 := (hrow.lt a.block rfl).1
  have h2 : (w.alloc (.cells #[.map (some bm)] 67)).heap.size = w.heap.size + 1 := by simp
  omega
end Go.Proofs.Ythfngmlnmpbcpaa
