/- The contract of a tally's Add. -/
import Derived.Test.YtgbkloilodgjfaaTaC
namespace Go.Proofs.Ytgbkloilodgjfaa
open Go.RowKit

def addE (L : List Int) (k n : Int) : Int := if ¬ (0 ≤ k ∧ k < L.length) ∨ n < 0 then 1 else if 1099511627776 - L.getD k.toNat 0 < n then 3 else 0
def addL (L : List Int) (k n : Int) : List Int := if addE L k n = 0 then L.set k.toNat (L.getD k.toNat 0 + n) else L

theorem addE_no {L : List Int} {k n : Int} (h : ¬ (0 ≤ k ∧ k < L.length)) : addE L k n = 1 := by simp only [addE, if_pos (Or.inl h)]
theorem addE_neg {L : List Int} {k n : Int} (h : n < 0) : addE L k n = 1 := by simp only [addE, if_pos (Or.inr h)]
theorem addE_big {L : List Int} {k n : Int} (h : 0 ≤ k ∧ k < L.length) (h0 : ¬ n < 0) (h1 : 1099511627776 - L.getD k.toNat 0 < n) : addE L k n = 3 := by
  have h2 : ¬ (¬ (0 ≤ k ∧ k < (L.length : Int)) ∨ n < 0) := fun e => e.elim (fun a => a h) h0
  simp only [addE, if_neg h2, if_pos h1]
theorem addE_ok {L : List Int} {k n : Int} (h : 0 ≤ k ∧ k < L.length) (h0 : ¬ n < 0) (h1 : ¬ 1099511627776 - L.getD k.toNat 0 < n) : addE L k n = 0 := by
  have h2 : ¬ (¬ (0 ≤ k ∧ k < (L.length : Int)) ∨ n < 0) := fun e => e.elim (fun a => a h) h0
  simp only [addE, if_neg h2, if_neg h1]
theorem addL_length (L : List Int) (k n : Int) : (addL L k n).length = L.length := by
  unfold addL
  split <;> simp
theorem addL_not {L : List Int} {k n : Int} (h : addE L k n ≠ 0) : addL L k n = L := by simp [addL, h]
theorem addL_ok {L : List Int} {k n : Int} (h : addE L k n = 0) : addL L k n = L.set k.toNat (L.getD k.toNat 0 + n) := by simp [addL, h]

theorem Tl.val {w : World} {b : Nat} {go : Option Nat} {L : List Int} (h : Tl w b go L) (k : Nat) : 0 ≤ L.getD k 0 ∧ L.getD k 0 ≤ 1099511627776 := by
  rcases Nat.lt_or_ge k L.length with hk | hk
  · rw [List.getD_eq_getElem?_getD, List.getElem?_eq_getElem hk]
    exact h.bd _ (List.getElem_mem hk)
  · rw [List.getD_eq_getElem?_getD, List.getElem?_eq_none hk]
    exact ⟨by simp, by simp⟩

theorem Tl.set_ {w : World} {b g : Nat} {L : List Int} (h : Tl w b (some g) L) (k : Nat) (x : Int) (h0 : 0 ≤ x) (h1 : x ≤ 1099511627776) :
    Tl (w.setCell ⟨g, k, none⟩ (.int .i64 x)) b (some g) (L.set k x) := by
  obtain ⟨hn, hbd, hb, hg⟩ := h
  have hne : b ≠ g := hb.ne_ hg (by decide)
  refine ⟨by simpa using hn, fun y hy => ?_, ?_, ?_⟩
  · rcases List.mem_or_eq_of_mem_set hy with hy | rfl
    · exact hbd y hy
    · exact ⟨h0, h1⟩
  · rw [List.length_set]
    exact hb.far hne _
  · rw [List.map_set]
    exact hg.set_ k _

def TaAdd (w : World) (b : Nat) (go : Option Nat) (L : List Int) (k n : Int) (e : Ending) (w' : World) : Prop :=
  e = .returned (.int .i64 (addE L k n)) ∧ ∃ g', Tl w' b g' (addL L k n) ∧ Stp w w' b go g'

set_option maxHeartbeats 400000 in
theorem ta_add_in (b : Nat) (go : Option Nat) (L : List Int) (k : Nat) (n : Int) (w : World) (h : Tl w b go L) (hk : k < L.length) (hn0 : ¬ n < 0) : Calls Try.prog 16 #[.pointer (some ⟨b, 0, none⟩), .int .i64 (k : Int), .int .i64 n] w (TaAdd w b go L k n) := by
  have HH := Lib.hid (ta_has b go L k w h)
  have HC := Lib.hid (ta_cells b go L w h)
  have hnot : ∀ (x : Bool) (w : World), (Op.unary .not (.bool x)).run Try.prog w = .ok (.bool (!x)) w := fun _ _ => rfl
  have H := Lib.hid h
  have hn := h.len
  obtain ⟨hv0, hv1⟩ := h.val k
  clear h
  have hd : decide (0 ≤ (k : Int) ∧ (k : Int) < (L.length : Int)) = true := by simp [hk]
  rw [hd] at HH
  have hin : 0 ≤ (k : Int) ∧ (k : Int) < (L.length : Int) := by omega
  obtain ⟨v, gv⟩ : ∃ v, L.getD k 0 = v := ⟨_, rfl⟩
  rw [gv] at hv0 hv1
  have GV := Lib.hid gv
  by_cases hbig : 1099511627776 - v < n
  · have HE := Lib.hid (addE_big hin hn0 (by rw [Int.toNat_natCast, gv]; exact hbig))
    clear hd gv hin
    go_enter Try.func16, Try.ntmps16
    go_wp2_with (first
      | (go_at_call 45; refine (HH.out).mono ?_; rintro e w' ⟨rfl, rfl⟩)
      | (go_at_call 43; refine (HC.out).mono ?_; rintro e w2 ⟨g, rfl, ht2, hs2⟩; have hl := run_call_load (P := Try.prog) Try.func57 (by kernel_rfl) (by kernel_rfl) (by kernel_rfl) .i64 (by kernel_rfl) (by have := ht2.at_ k hk; rw [GV.out] at this; exact this); have T2 := Lib.hid ht2; clear ht2)
      | (go_at_call 46; go_in))
    refine wp_loop_rounds 1 ?_
    rw [rounds_succ]
    go_wp2_with (first
      | (go_at_call 46; go_in))
    go_ret
    exact ⟨ret_i HE.out.symm, some g, by rw [addL_not (by rw [HE.out]; decide)]; exact T2.out, hs2⟩
  · have HE := Lib.hid (addE_ok hin hn0 (by rw [Int.toNat_natCast, gv]; exact hbig))
    clear hd gv hin
    go_enter Try.func16, Try.ntmps16
    go_wp2_with (first
      | (go_at_call 45; refine (HH.out).mono ?_; rintro e w' ⟨rfl, rfl⟩)
      | (go_at_call 43; refine (HC.out).mono ?_; rintro e w2 ⟨g, rfl, ht2, hs2⟩; have hl := run_call_load (P := Try.prog) Try.func57 (by kernel_rfl) (by kernel_rfl) (by kernel_rfl) .i64 (by kernel_rfl) (by have := ht2.at_ k hk; rw [GV.out] at this; exact this)
         have hcas := run_call_cas_hit (P := Try.prog) Try.func58 (by kernel_rfl) (by kernel_rfl) (by kernel_rfl) .i64 (by kernel_rfl) (y := v + n) (by have := ht2.at_ k hk; rw [GV.out] at this; exact this) (ht2.free k); have T2 := Lib.hid ht2; clear ht2)
      | (go_at_call 46; go_in))
    refine wp_loop_rounds 1 ?_
    rw [rounds_succ]
    go_wp2_with (first
      | (go_at_call 46; go_in)
      | (go_at_call 47; go_in))
    go_ret
    refine ⟨ret_i HE.out.symm, some g, ?_, hs2.trans ⟨(Kept.refl _ _).setCell (.inl (.inr rfl)) _, .inl rfl⟩⟩
    rw [addL_ok HE.out, Int.toNat_natCast, GV.out]
    exact T2.out.set_ k _ (by omega) (by omega)

theorem ta_add (b : Nat) (go : Option Nat) (L : List Int) (k n : Int) (w : World) (h : Tl w b go L) : Calls Try.prog 16 #[.pointer (some ⟨b, 0, none⟩), .int .i64 k, .int .i64 n] w (TaAdd w b go L k n) := by
  by_cases hk : 0 ≤ k ∧ k < L.length
  · obtain ⟨m, rfl⟩ := Int.eq_ofNat_of_zero_le hk.1
    by_cases hn0 : n < 0
    · have HH := Lib.hid (ta_has b go L m w h)
      have hnot : ∀ (x : Bool) (w : World), (Op.unary .not (.bool x)).run Try.prog w = .ok (.bool (!x)) w := fun _ _ => rfl
      have H := Lib.hid h
      clear h
      have hd : decide (0 ≤ (m : Int) ∧ (m : Int) < (L.length : Int)) = true := by simp; omega
      rw [hd] at HH
      have HE := Lib.hid (addE_neg (L := L) (k := m) hn0)
      clear hd hk
      go_enter Try.func16, Try.ntmps16
      go_wp2_with (first
        | (go_at_call 45; refine (HH.out).mono ?_; rintro e w' ⟨rfl, rfl⟩))
      go_ret
      exact ⟨ret_i HE.out.symm, go, by rw [addL_not (by rw [HE.out]; decide)]; exact H.out, Stp.refl _ _ _⟩
    · exact ta_add_in b go L m n w h (by omega) hn0
  · have HH := Lib.hid (ta_has b go L k w h)
    have hnot : ∀ (x : Bool) (w : World), (Op.unary .not (.bool x)).run Try.prog w = .ok (.bool (!x)) w := fun _ _ => rfl
    have H := Lib.hid h
    clear h
    have hd : decide (0 ≤ k ∧ k < (L.length : Int)) = false := by simpa using hk
    rw [hd] at HH
    have HE := Lib.hid (addE_no (n := n) hk)
    clear hd hk
    go_enter Try.func16, Try.ntmps16
    go_wp2_with (first
      | (go_at_call 45; refine (HH.out).mono ?_; rintro e w' ⟨rfl, rfl⟩))
    go_ret
    exact ⟨ret_i HE.out.symm, go, by rw [addL_not (by rw [HE.out]; decide)]; exact H.out, Stp.refl _ _ _⟩
end Go.Proofs.Ytgbkloilodgjfaa
