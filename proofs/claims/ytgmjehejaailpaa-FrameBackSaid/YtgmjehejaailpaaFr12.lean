/- A text tells its bytes; a frame's bytes tell the frame. -/
import Derived.Test.YtgmjehejaailpaaFr11
import Derived.Laws.Strings
namespace Go.Proofs.Ytgmjehejaailpaa
open Go.RowKit
set_option linter.unusedSimpArgs false
set_option linter.unusedVariables false

theorem push_bytes (bs : List Int) : ∀ r : ByteArray, (bs.foldl (fun r n => r.push (UInt8.ofNat n.toNat)) r).data.toList = r.data.toList ++ bs.map fun n => UInt8.ofNat n.toNat := by
  induction bs with
  | nil => intro r; simp
  | cons b bs ih => intro r; rw [List.foldl_cons, ih]; simp [ByteArray.push]
theorem txt_list (L : List Nat) : (txt L).toList = L.map UInt8.ofNat := by
  rw [ByteArray.toList_eq]
  unfold txt strB
  rw [push_bytes]
  simp [Function.comp_def]
theorem ofNat_inj {a b : Nat} (ha : a < 256) (hb : b < 256) (h : UInt8.ofNat a = UInt8.ofNat b) : a = b := by
  have := congrArg UInt8.toNat h
  rw [UInt8.toNat_ofNat', UInt8.toNat_ofNat'] at this
  omega
theorem map_ofNat_inj : ∀ {P Q : List Nat}, (∀ b ∈ P, b < 256) → (∀ b ∈ Q, b < 256) → P.map UInt8.ofNat = Q.map UInt8.ofNat → P = Q
  | [], [], _, _, _ => rfl
  | [], _ :: _, _, _, h => by simp at h
  | _ :: _, [], _, _, h => by simp at h
  | a :: P, b :: Q, hp, hq, h => by
    simp only [List.map_cons, List.cons.injEq] at h
    rw [ofNat_inj (hp a (by simp)) (hq b (by simp)) h.1, map_ofNat_inj (fun x hx => hp x (by simp [hx])) (fun x hx => hq x (by simp [hx])) h.2]
theorem txt_eq {P Q : List Nat} (hp : ∀ b ∈ P, b < 256) (hq : ∀ b ∈ Q, b < 256) : ((txt P).toList == (txt Q).toList) = decide (P = Q) := by
  rw [txt_list, txt_list]
  by_cases h : P = Q
  · subst h; simp
  · rw [decide_eq_false h, beq_eq_false_iff_ne]; exact fun e => h (map_ofNat_inj hp hq e)
theorem be4_inj {x y : Int} (hx : 0 ≤ x ∧ x ≤ 1073741824) (hy : 0 ≤ y ∧ y ≤ 1073741824) (h : be4 x = be4 y) : x = y := by
  simp only [be4, List.cons.injEq, and_true] at h
  omega
theorem headF_inj {f g : FrT} {n m : Nat} (hf : mayF f n = 0) (hg : mayF g m = 0) (h : headF f = headF g) : f = g := by
  obtain ⟨⟨a1, a2⟩, ⟨b1, b2⟩, ⟨c1, c2⟩, d, e, i, _⟩ := may_bounds hf
  obtain ⟨⟨a1', a2'⟩, ⟨b1', b2'⟩, ⟨c1', c2'⟩, d', e', i', _⟩ := may_bounds hg
  unfold headF at h
  have l4 : ∀ x : Int, (be4 x).length = 4 := fun _ => rfl
  obtain ⟨h, h6⟩ := List.append_inj h (by simp [l4])
  obtain ⟨h, h5⟩ := List.append_inj h (by simp [l4])
  obtain ⟨h, h4⟩ := List.append_inj h (by simp)
  simp only [List.cons.injEq, and_true] at h
  exact same_eq (by omega) (by omega) (by omega) (be4_inj d d' h4) (be4_inj e e' h5) (be4_inj i i' h6)
theorem putF_inj {f g : FrT} {L M : List Nat} {n m : Nat} (hf : mayF f n = 0) (hg : mayF g m = 0) (h : putF f L = putF g M) : f = g ∧ L = M := by
  unfold putF at h
  have e := congrArg List.length h
  simp only [List.length_append, headF_len] at e
  have l4 : ∀ s : Nat, (le4 s).length = 4 := fun _ => rfl
  rw [l4, l4] at e
  obtain ⟨h, -⟩ := List.append_inj h (by simp [headF_len]; omega)
  obtain ⟨h1, h2⟩ := List.append_inj h (by simp [headF_len])
  exact ⟨headF_inj hf hg h1, h2⟩
end Go.Proofs.Ytgmjehejaailpaa
