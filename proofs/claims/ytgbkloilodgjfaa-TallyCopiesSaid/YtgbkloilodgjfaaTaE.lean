/- The contracts of a tally's New, All, Sum. -/
import Derived.Test.YtgbkloilodgjfaaTaD
import Derived.LoopTactic
import Derived.Outline
namespace Go.Proofs.Ytgbkloilodgjfaa
open Go.RowKit

def kn (k : Int) : Nat := (min (max k 0) 64).toNat
def GivesNew (w : World) (k : Int) (e : Ending) (w' : World) : Prop :=
  ∃ b, e = .returned (.pointer (some ⟨b, 0, none⟩)) ∧ w.heap.size ≤ b ∧ Tl w' b none (List.replicate (kn k) 0) ∧ Below w.heap.size w w'

theorem tl_new (w : World) (n : Nat) (hn : n ≤ 64) : Tl (w.alloc (.cells #[.int .i64 n, .int .u32 0, .int .i32 0, .int .u32 0, .slice none 0 0] 72)) w.heap.size none (List.replicate n 0) := by
  refine ⟨by simpa using hn, fun x hx => ?_, ?_, by simp⟩
  · obtain ⟨-, rfl⟩ := List.mem_replicate.1 hx
    omega
  · rw [List.length_replicate]
    exact Whole.new_ w _ _

theorem ta_new (k : Int) (w : World) : Calls Try.prog 13 #[.int .i64 k] w (GivesNew w k) := by
  have HB := Lib.hid (fun (o : Obj) => (Below.refl w.heap.size w).alloc (Nat.le_refl _) o)
  by_cases h0 : 0 ≤ k
  · by_cases h1 : k ≤ 64
    · obtain ⟨n, rfl⟩ := Int.eq_ofNat_of_zero_le h0
      have hk : kn n = n := by unfold kn; omega
      have HK := Lib.hid hk
      have HT := Lib.hid (tl_new w n (by omega))
      clear hk
      go_enter Try.func13, Try.ntmps13
      go_wp2
      go_ret
      exact ⟨w.heap.size, rfl, Nat.le_refl _, by rw [HK.out]; exact HT.out, HB.out _⟩
    · have hk : kn k = 64 := by unfold kn; omega
      have HK := Lib.hid hk
      have HT := Lib.hid (tl_new w 64 (by omega))
      clear hk
      go_enter Try.func13, Try.ntmps13
      go_wp2
      go_ret
      exact ⟨w.heap.size, rfl, Nat.le_refl _, by rw [HK.out]; exact HT.out, HB.out _⟩
  · have hk : kn k = 0 := by unfold kn; omega
    have HK := Lib.hid hk
    have HT := Lib.hid (tl_new w 0 (by omega))
    clear hk
    go_enter Try.func13, Try.ntmps13
    go_wp2
    go_ret
    exact ⟨w.heap.size, rfl, Nat.le_refl _, by rw [HK.out]; exact HT.out, HB.out _⟩

theorem info_int : (Try.prog.info? 3).map (fun i => (i.zero, i.size, i.bytes)) = some (some (.int .i64 0), 1, 8) := by kernel_rfl
theorem ta_make_ints (ks : Nat) (hk : ks ≤ 64) (W : World) : (Instr.makeSlice 34 (.int .i64 (ks : Int)) (.int .i64 (ks : Int))).run Try.prog W = .ok (.slice (some ⟨W.heap.size, 0, none⟩) ks ks) (W.alloc (.cells (Array.replicate ks (Value.int .i64 0)) 3)) := by
  obtain ⟨i0, hi, hz0, hz1, hz2⟩ := info_parts info_int
  have := run_make (P := Try.prog) W 34 3 i0 (.int .i64 0) Try.underlying34 hi hz0 .i64 .i64 (ks : Int) (ks : Int) (by omega) (by omega) (by rw [hz2]; omega) (by omega)
  rw [hz1] at this
  simp only [Int.toNat_natCast, Nat.mul_one, Value.cells, made_one] at this
  exact this

def ints (L : List Int) : List Value := L.map (.int .i64)
def GivesAll (w : World) (b : Nat) (go : Option Nat) (L : List Int) (e : Ending) (w' : World) : Prop :=
  ∃ h, e = .returned (.slice (some ⟨h, 0, none⟩) L.length L.length) ∧ w.heap.size ≤ h ∧ Whole w' h 3 (ints L) ∧ ∃ g', Tl w' b g' L ∧ Stp w w' b go g'

/-- What holds at each round of All. -/
structure AllIn (w : World) (b h : Nat) (go : Option Nat) (L : List Int) (k : Nat) (x : World) : Prop where
  hh : w.heap.size ≤ h
  row : Whole x h 3 (ints (L.take k ++ List.replicate (L.length - k) 0))
  t : ∃ g', Tl x b g' L ∧ Stp w x b go g'

theorem take_fill (L : List Int) (k : Nat) (hk : k < L.length) : (L.take k ++ List.replicate (L.length - k) 0).set k (L.getD k 0) = L.take (k + 1) ++ List.replicate (L.length - (k + 1)) 0 := by
  apply List.ext_getElem?
  intro j
  have hl : (L.take k).length = k := by simp; omega
  rw [List.getElem?_set]
  by_cases e : k = j
  · subst e
    rw [if_pos rfl, if_pos (by simp; omega), List.getElem?_append_left (by simp; omega)]
    simp [hk]
  · rw [if_neg e]
    rcases Nat.lt_or_ge j k with h | h
    · rw [List.getElem?_append_left (by omega), List.getElem?_append_left (by simp; omega), List.getElem?_take, List.getElem?_take, if_pos h, if_pos (by omega)]
    · rw [List.getElem?_append_right (by omega), List.getElem?_append_right (by simp; omega), hl, List.getElem?_replicate, List.getElem?_replicate]
      simp only [List.length_take]
      rw [show min (k + 1) L.length = k + 1 by omega]
      by_cases h1 : j < L.length
      · rw [if_pos (by omega), if_pos (by omega)]
      · rw [if_neg (by omega), if_neg (by omega)]

theorem fill_at (L : List Int) (k : Nat) (hk : k < L.length) : (ints (L.take k ++ List.replicate (L.length - k) 0))[k]? = some (.int .i64 0) := by
  have hl : (L.take k).length = k := by simp; omega
  rw [ints, List.getElem?_map, List.getElem?_append_right (by omega), hl, List.getElem?_replicate, if_pos (by omega)]
  rfl

theorem AllIn.next {w x y : World} {b h : Nat} {go g1 g2 : Option Nat} {L : List Int} {k : Nat} (hI : Whole x h 3 (ints (L.take k ++ List.replicate (L.length - k) 0))) (hh : w.heap.size ≤ h) (hk : k < L.length) (hs : Stp w x b go g1) (ht : Tl x b g1 L)
    (ht2 : Tl y b g2 L) (hs2 : Stp x y b g1 g2) : AllIn w b h go L (k + 1) (y.setCell ⟨h, k, none⟩ (.int .i64 (L.getD k 0))) := by
  have hne : ¬ Own b g1 h := by
    rintro (rfl | e)
    · cases g1 with
      | none => exact (ht.mem.1.ne_ hI (by decide)) rfl
      | some g => exact (ht.mem.1.ne_ hI (by decide)) rfl
    · subst e
      exact (ht.mem.2.ne_ hI (by decide)) rfl
  have h1 : Whole y h 3 (ints (L.take k ++ List.replicate (L.length - k) 0)) := hs2.k.whole hI hne
  refine ⟨hh, ?_, g2, ?_, ?_⟩
  · rw [← take_fill L k hk, ints, List.map_set]
    exact h1.set_ k _
  · obtain ⟨a1, a2, a3⟩ := ht2
    refine ⟨a1, a2, ?_⟩
    cases g2 with
    | none => exact ⟨a3.1.far (a3.1.ne_ h1 (by decide)) _, a3.2⟩
    | some g => exact ⟨a3.1.far (a3.1.ne_ h1 (by decide)) _, a3.2.far (a3.2.ne_ h1 (by decide)) _⟩
  · exact ⟨(hs.trans hs2).k.setCell (.inr hh) _, (hs.trans hs2).n⟩

set_option maxHeartbeats 400000 in
theorem ta_all (b : Nat) (go : Option Nat) (L : List Int) (w : World) (h : Tl w b go L) : Calls Try.prog 21 #[.pointer (some ⟨b, 0, none⟩)] w (GivesAll w b go L) := by
  have hmk := ta_make_ints L.length h.len
  obtain ⟨c0, hlt⟩ := h.kinds
  have hn := h.len
  have hstart : AllIn w b w.heap.size go L 0 (w.alloc (.cells (Array.replicate L.length (Value.int .i64 0)) 3)) := by
    refine ⟨Nat.le_refl _, ?_, go, ?_, Stp.below ((Below.refl _ _).alloc (Nat.le_refl _) _)⟩
    · have := Whole.new_ w 3 (List.replicate L.length (.int .i64 0))
      simpa [ints] using this
    · obtain ⟨a1, a2, a3⟩ := h
      refine ⟨a1, a2, ?_⟩
      cases go with
      | none => exact ⟨a3.1.alloc _, a3.2⟩
      | some g => exact ⟨a3.1.alloc _, a3.2.alloc _⟩
  have HS := Lib.hid hstart
  clear h hstart
  go_enter Try.func21, Try.ntmps21
  go_wp2
  go_loopw [12] (fun i wr => ∃ k : Nat, k ≤ L.length ∧ i = .int .i64 k ∧ AllIn w b w.heap.size go L k wr) (fun i _ => L.length - (intOf i).toNat)
  case atStart => exact ⟨0, Nat.zero_le _, rfl, HS.out⟩
  case round =>
    obtain ⟨k, hk, rfl, hI⟩ := hrel
    obtain ⟨hh, hrow, g1, ht, hs⟩ := hI
    by_cases hlt2 : k < L.length
    · have HR := Lib.hid hrow
      have HT := Lib.hid ht
      have HSt := Lib.hid hs
      have HG := Lib.hid (ta_get b g1 L k wr ht)
      have hgv : getL L k = L.getD k 0 := by simp [getL, hlt2]
      have HGV := Lib.hid hgv
      obtain ⟨v, gv⟩ : ∃ v, getL L k = v := ⟨_, rfl⟩
      have GV := Lib.hid gv
      have hz := Lib.hid hh
      clear hrow ht hs hgv gv hh
      go_wp2_with (first
        | (go_at_call 18; refine (HG.out).mono ?_; rintro e w2 ⟨rfl, g2, ht2, hs2⟩; rw [GV.out]
           have hA := Lib.hid (AllIn.next HR.out hz.out hlt2 HSt.out HT.out ht2 hs2)
           have hne : ¬ Own b g1 w.heap.size := (by
             rintro (h1 | e)
             · omega
             · subst e
               exact (HT.out.mem.2.ne_ HR.out (by decide)) rfl)
           have h1 := hs2.k.whole HR.out hne
           have cc : w2.cell? ⟨w.heap.size, k, none⟩ = some (.int .i64 0) := h1.cell (fill_at L k hlt2)
           have cf := h1.free k
           clear hne h1 ht2 hs2))
      go_roundw
      case rel =>
        refine ⟨k + 1, by omega, by go_num, ?_⟩
        have := hA.out
        rw [← HGV.out, GV.out] at this
        exact this
      case measure => simp [intOf]; omega
    · obtain rfl : k = L.length := by omega
      have HR := Lib.hid hrow
      have HT := Lib.hid ht
      have HSt := Lib.hid hs
      clear hrow ht hs
      go_wp2
      go_ret
      refine ⟨w.heap.size, rfl, Nat.le_refl _, ?_, g1, HT.out, HSt.out⟩
      have := HR.out
      simpa using this
end Go.Proofs.Ytgbkloilodgjfaa
