/- The contracts of a tally's Sum and Clone. -/
import Derived.Test.YtgbkloilodgjfaaTaE
namespace Go.Proofs.Ytgbkloilodgjfaa
open Go.RowKit

def TaSum (w : World) (b : Nat) (go : Option Nat) (L : List Int) (e : Ending) (w' : World) : Prop :=
  e = .returned (.int .i64 L.sum) ∧ ∃ g', Tl w' b g' L ∧ Stp w w' b go g'

theorem sum_bd (L : List Int) (hb : ∀ x ∈ L, 0 ≤ x ∧ x ≤ 1099511627776) : 0 ≤ L.sum ∧ L.sum ≤ 1099511627776 * L.length := by
  induction L with
  | nil => simp
  | cons x L ih =>
    have h1 := ih (fun y hy => hb y (List.mem_cons_of_mem _ hy))
    have h2 := hb x List.mem_cons_self
    simp only [List.sum_cons, List.length_cons]
    omega
theorem sum_take (L : List Int) (k : Nat) (hk : k < L.length) : (L.take (k + 1)).sum = (L.take k).sum + L.getD k 0 := by
  rw [List.take_succ_eq_append_getElem hk, List.sum_append, List.getD_eq_getElem?_getD, List.getElem?_eq_getElem hk]
  simp
theorem ints_at (L : List Int) (k : Nat) (hk : k < L.length) : (ints L)[k]? = some (.int .i64 (L.getD k 0)) := by simp [ints, hk]
theorem take_bd (L : List Int) (k : Nat) (hb : ∀ x ∈ L, 0 ≤ x ∧ x ≤ 1099511627776) (hn : L.length ≤ 64) : 0 ≤ (L.take k).sum ∧ (L.take k).sum ≤ 1099511627776 * 64 := by
  have h1 := sum_bd (L.take k) (fun x hx => hb x (List.mem_of_mem_take hx))
  have h2 : (L.take k).length ≤ L.length := by simp; omega
  omega

set_option maxHeartbeats 400000 in
theorem ta_sum (b : Nat) (go : Option Nat) (L : List Int) (w : World) (h : Tl w b go L) : Calls Try.prog 22 #[.pointer (some ⟨b, 0, none⟩)] w (TaSum w b go L) := by
  have HA := Lib.hid (ta_all b go L w h)
  have hn := h.len
  have HB := Lib.hid h.bd
  have HV := Lib.hid h.val
  clear h
  go_enter Try.func22, Try.ntmps22
  go_wp2_with (go_at_call 21; refine (HA.out).mono ?_; rintro e w2 ⟨h, rfl, hh, hrow, g2, ht2, hs2⟩; have HR := Lib.hid hrow; have HF := Lib.hid (show ∃ g', Tl w2 b g' L ∧ Stp w w2 b go g' from ⟨g2, ht2, hs2⟩); clear hrow ht2 hs2)
  go_loop [3, 9] (fun s i => ∃ k : Nat, k ≤ L.length ∧ i = .int .i64 k ∧ s = .int .i64 (L.take k).sum) (fun _ i => L.length - (intOf i).toNat)
  case atStart => exact ⟨0, Nat.zero_le _, rfl, rfl⟩
  case round =>
    obtain ⟨k, hk, rfl, rfl⟩ := hrel
    by_cases hlt : k < L.length
    · have HS := Lib.hid (sum_take L k hlt)
      obtain ⟨b1, b2⟩ := take_bd L k HB.out hn
      obtain ⟨v0, v1⟩ := HV.out k
      have cc := HR.out.cell (ints_at L k hlt)
      obtain ⟨v, gv⟩ : ∃ v, L.getD k 0 = v := ⟨_, rfl⟩
      obtain ⟨s, gs⟩ : ∃ s, (L.take k).sum = s := ⟨_, rfl⟩
      rw [gv] at cc v0 v1
      rw [gs] at b1 b2
      have GV := Lib.hid gv
      have GS := Lib.hid gs
      rw [gs]
      clear gv gs
      go_wp2
      go_round
      case rel => exact ⟨k + 1, by omega, by go_num, by rw [HS.out, GS.out, GV.out]⟩
      case measure => simp [intOf]; omega
    · go_wp2
      go_ret
      exact ⟨ret_i (by rw [List.take_of_length_le (by omega)]), HF.out⟩

/-- One tally's steps leave another's as it was. -/
theorem Tl.far {w w' : World} {b b' : Nat} {go g' : Option Nat} {L L' : List Int} (h : Tl w b' g' L') (h0 : Tl w b go L) (k : Kept (Own b go) w w') (hb : b' ≠ b) (hg : g' = none ∨ g' ≠ go) : Tl w' b' g' L' := by
  obtain ⟨a1, a2, a3⟩ := h
  have hbg : ∀ x, Whole w b' 72 x → ¬ Own b go b' := fun x hx => by
    rintro (e | e)
    · exact hb e
    · subst e
      exact (hx.ne_ h0.mem.2 (by decide)) rfl
  refine ⟨a1, a2, ?_⟩
  cases g' with
  | none => exact ⟨k.whole a3.1 (hbg _ a3.1), a3.2⟩
  | some g =>
    refine ⟨k.whole a3.1 (hbg _ a3.1), k.whole a3.2 ?_⟩
    rintro (e | e)
    · subst e
      cases go with
      | none => exact (a3.2.ne_ h0.mem.1 (by decide)) rfl
      | some x => exact (a3.2.ne_ h0.mem.1 (by decide)) rfl
    · rcases hg with hg | hg
      · cases hg
      · exact hg e

theorem Tl.below {w w' : World} {b : Nat} {go : Option Nat} {L : List Int} (h : Tl w b go L) (k : Below w.heap.size w w') : Tl w' b go L := by
  obtain ⟨a1, a2, a3⟩ := h
  refine ⟨a1, a2, ?_⟩
  cases go with
  | none => exact ⟨a3.1.below k, a3.2⟩
  | some g => exact ⟨a3.1.below k, a3.2.below k⟩
theorem Tl.lt {w : World} {b : Nat} {go : Option Nat} {L : List Int} (h : Tl w b go L) : b < w.heap.size ∧ ∀ g, go = some g → g < w.heap.size := by
  refine ⟨h.kinds.2, fun g e => ?_⟩
  subst e
  exact h.mem.2.lt
/-- A plain block is none of a tally's. -/
theorem Tl.own {w : World} {b h : Nat} {go : Option Nat} {L : List Int} {t : TypeId} {cs : List Value} (ht : Tl w b go L) (hr : Whole w h t cs) (h1 : t ≠ 72) (h2 : t ≠ 75) : ¬ Own b go h := by
  rintro (rfl | e)
  · cases go with
    | none => exact (hr.ne_ ht.mem.1 h1) rfl
    | some g => exact (hr.ne_ ht.mem.1 h1) rfl
  · subst e
    exact (hr.ne_ ht.mem.2 h2) rfl

/-- What Clone answers: a tally of its own beside the elder one. -/
def GivesClone (w : World) (b : Nat) (go : Option Nat) (L : List Int) (e : Ending) (w' : World) : Prop :=
  ∃ c gc g', e = .returned (.pointer (some ⟨c, 0, none⟩)) ∧ w.heap.size ≤ c ∧ (∀ x, gc = some x → w.heap.size ≤ x) ∧ (gc = none ∨ gc ≠ g') ∧ Tl w' c gc L ∧ Tl w' b g' L ∧ Stp w w' b go g'

/-- What holds at each round of Clone. -/
structure CloIn (w : World) (b c h M : Nat) (go g1 : Option Nat) (L : List Int) (k : Nat) (x : World) : Prop where
  c0 : w.heap.size ≤ c
  m0 : w.heap.size ≤ M
  old : ∀ y, g1 = some y → y < M
  row : Whole x h 3 (ints L)
  t : Tl x b g1 L
  s : Stp w x b go g1
  n : ∃ gc, Tl x c gc (L.take k ++ List.replicate (L.length - k) 0) ∧ ∀ y, gc = some y → M ≤ y
  z : M ≤ x.heap.size

theorem fill_length (L : List Int) (k : Nat) (hk : k ≤ L.length) : (L.take k ++ List.replicate (L.length - k) 0).length = L.length := by simp; omega

theorem CloIn.next {w x y : World} {b c h M : Nat} {go g1 gc : Option Nat} {g : Nat} {L : List Int} {k : Nat} (hI : CloIn w b c h M go g1 L k x) (hk : k < L.length) (hgc : Tl x c gc (L.take k ++ List.replicate (L.length - k) 0)) (hgM : ∀ y, gc = some y → M ≤ y)
    (ht2 : Tl y c (some g) (L.take k ++ List.replicate (L.length - k) 0)) (hs2 : Stp x y c gc (some g)) (hb : b < w.heap.size) : CloIn w b c h M go g1 L (k + 1) (y.setCell ⟨g, k, none⟩ (.int .i64 (L.getD k 0))) := by
  have hMg : M ≤ g := by
    rcases hs2.n with e | ⟨_, g', e, hg⟩
    · exact hgM g e.symm
    · have := Option.some.inj e
      have := hI.z
      omega
  have hy := hI.row
  have h1 : Whole y h 3 (ints L) := hs2.k.whole hI.row (hgc.own hI.row (by decide) (by decide))
  have hbc : b ≠ c := by
    have := hI.c0
    omega
  have hg1 : g1 = none ∨ g1 ≠ gc := by
    cases hg1 : g1 with
    | none => exact .inl rfl
    | some z =>
      refine .inr fun e => ?_
      have := hI.old z hg1
      have := hgM z e.symm
      omega
  have ht1 : Tl y b g1 L := hI.t.far hgc hs2.k hbc hg1
  have hg1' : g1 = none ∨ g1 ≠ some g := by
    cases hg1 : g1 with
    | none => exact .inl rfl
    | some z =>
      refine .inr fun e => ?_
      have := hI.old z hg1
      have := Option.some.inj e
      omega
  have hks : Kept (Own c (some g)) y (y.setCell ⟨g, k, none⟩ (.int .i64 (L.getD k 0))) := (Kept.refl _ _).setCell (.inl (.inr rfl)) _
  have hmg : ∀ i, i < w.heap.size → ¬ Own c gc i := fun i hi => by
    rintro (rfl | e)
    · have := hI.c0
      omega
    · have := hgM i e.symm
      have := hI.m0
      omega
  have hbel : Stp w y b go g1 := by
    refine ⟨?_, hI.s.n⟩
    exact ⟨hs2.k.os.trans hI.s.k.os, hs2.k.tape.trans hI.s.k.tape, hs2.k.output.trans hI.s.k.output, Nat.le_trans hI.s.k.size hs2.k.size, fun i hi hn => (hs2.k.block i (Nat.lt_of_lt_of_le hi hI.s.k.size) (hmg i hi)).trans (hI.s.k.block i hi hn)⟩
  refine ⟨hI.c0, hI.m0, hI.old, hks.whole h1 (ht2.own h1 (by decide) (by decide)), ht1.far ht2 hks hbc hg1', ?_, ⟨some g, ?_, fun z e => by have := Option.some.inj e; omega⟩, ?_⟩
  · refine ⟨hbel.k.setCell (.inr ?_) _, hbel.n⟩
    have := hI.m0
    show w.heap.size ≤ g
    omega
  · have h3 := ht2.set_ k (L.getD k 0) (hI.t.val k).1 (hI.t.val k).2
    rwa [take_fill L k hk] at h3
  · have := hI.z
    have := hs2.k.size
    simp [World.setCell]
    omega
end Go.Proofs.Ytgbkloilodgjfaa
