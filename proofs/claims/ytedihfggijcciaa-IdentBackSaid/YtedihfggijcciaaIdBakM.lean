/- What IdentBack needs of bytes and of the next name. -/
import Derived.Test.YtedihfggijcciaaIdBytW
namespace Go.Proofs.Ytedihfggijcciaa
open Go.RowKit

theorem take_name (s m : Int) (bs : List Int) (h : mayI s m = true) : takeI (nameB s m ++ bs) = ((s, m), bs, true) := by
  have hb := may_bounds s m h
  have hf : firstI (nameB s m ++ bs) = (s, m) := by
    unfold firstI
    rw [if_neg (by simp [nameB])]
    simp [nameB]
    omega
  unfold takeI
  rw [hf, if_pos h]
  simp [nameB]

theorem fits_name (s m : Int) (h : mayI s m = true) : fits (nameB s m) := by
  have hb := may_bounds s m h
  intro x hx
  simp [nameB] at hx
  omega
theorem fits_app {a b : List Int} (h : fits a) (k : fits b) : fits (a ++ b) := fun x hx => by
  rcases List.mem_append.1 hx with e | e
  · exact h x e
  · exact k x e

theorem gstep_le (site g : Int) (p : Int × Int) : g ≤ gstep site g p := by
  unfold gstep
  split <;> omega
theorem gfold_le (site : Int) (l : List (Int × Int)) : ∀ g : Int, g ≤ l.foldl (gstep site) g := by
  induction l with
  | nil => exact fun g => Int.le_refl g
  | cons p l ih => exact fun g => Int.le_trans (gstep_le site g p) (ih _)
theorem gfold_mem (site : Int) (p : Int × Int) (h1 : p.1 = site) (h2 : mayI p.1 p.2 = true) (l : List (Int × Int)) : ∀ g : Int, p ∈ l → p.2 ≤ l.foldl (gstep site) g := by
  induction l with
  | nil => exact fun g hp => by cases hp
  | cons q l ih =>
    intro g hp
    rcases List.mem_cons.1 hp with rfl | hp
    · have := gfold_le site l (gstep site g p)
      have e : gstep site g p = max g p.2 := if_pos ⟨h1, h2⟩
      simp only [List.foldl_cons]
      omega
    · exact ih _ hp
/-- The next name is none of those that are there. -/
theorem next_new (site : Int) (l : List (Int × Int)) (h : mayI (nextI site l).1 (nextI site l).2 = true) : nextI site l ∉ l := by
  intro hm
  unfold nextI at h hm
  by_cases e : mayI site (gmax site l + 1) = true
  · rw [if_pos e] at hm
    have := gfold_mem site (site, gmax site l + 1) rfl e l 0 hm
    have h2 : (site, gmax site l + 1).2 = gmax site l + 1 := rfl
    have h3 : gmax site l = l.foldl (gstep site) 0 := rfl
    omega
  · rw [if_neg e] at h
    revert h
    decide

theorem strB_data (bs : List Int) : (strB bs).data.toList = bs.map fun n => UInt8.ofNat n.toNat := by
  unfold strB
  rw [foldl_push_bytes]
  simp

theorem u8_lt (a b : Int) (h : 0 ≤ a ∧ a ≤ 255) (k : 0 ≤ b ∧ b ≤ 255) : (UInt8.ofNat a.toNat < UInt8.ofNat b.toNat) ↔ a < b := by
  rw [UInt8.lt_iff_toNat_lt, UInt8.toNat_ofNat', UInt8.toNat_ofNat']
  omega
theorem u8_eq (a b : Int) (h : 0 ≤ a ∧ a ≤ 255) (k : 0 ≤ b ∧ b ≤ 255) : (UInt8.ofNat a.toNat = UInt8.ofNat b.toNat) ↔ a = b := by
  rw [← UInt8.toNat_inj, UInt8.toNat_ofNat', UInt8.toNat_ofNat']
  omega
theorem less_cons (a b : Int) (x y : List UInt8) (h : 0 ≤ a ∧ a ≤ 255) (k : 0 ≤ b ∧ b ≤ 255) :
    Op.bytesLess (UInt8.ofNat a.toNat :: x) (UInt8.ofNat b.toNat :: y) = (decide (a < b) || (decide (a = b) && Op.bytesLess x y)) := by
  rw [Op.bytesLess]
  congr 1
  · exact decide_eq_decide.2 (u8_lt a b h k)
  · congr 1
    rw [Bool.eq_iff_iff]
    simp only [beq_iff_eq, decide_eq_true_eq]
    exact u8_eq a b h k

theorem less_name (s m s' m' : Int) (h : mayI s m = true) (h' : mayI s' m' = true) :
    Op.bytesLess (strB (nameB s m)).toList (strB (nameB s' m')).toList = decide (ordI s m s' m' < 0) := by
  rw [ByteArray.toList_eq, ByteArray.toList_eq]
  have hb := may_bounds s m h
  have hb' := may_bounds s' m' h'
  rw [strB_data, strB_data]
  simp only [nameB, List.map_cons, List.map_nil]
  rw [less_cons _ _ _ _ (by omega) (by omega), less_cons _ _ _ _ (by omega) (by omega), less_cons _ _ _ _ (by omega) (by omega), less_cons _ _ _ _ (by omega) (by omega)]
  simp only [Op.bytesLess, Bool.and_false, Bool.or_false]
  rw [Bool.eq_iff_iff]
  simp only [Bool.or_eq_true, Bool.and_eq_true, decide_eq_true_eq]
  unfold ordI
  have h1 := cmpI_cases m m'
  have h2 := cmpI_cases s s'
  split <;> omega
end Go.Proofs.Ytedihfggijcciaa
