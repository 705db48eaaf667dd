/- Take: the name that some bytes begin with, and what is behind it. -/
import Derived.Test.YtedihfggijcciaaIdH
namespace Go.Proofs.Ytedihfggijcciaa
open Go.RowKit
set_option linter.unusedSimpArgs false
set_option linter.unusedVariables false

/-- The call answers this name, a slice of these bytes, this bool. -/
def GivesT (w : World) (x : Int × Int) (bs : List Int) (ok : Bool) (e : Ending) (w' : World) : Prop :=
  ∃ v, e = .returned (.tuple #[.agg #[.int .i64 x.1, .int .i64 x.2], v, .bool ok]) ∧ w'.ownsRow w.heap.size 5 1 v bs.length (bytesV bs) ∧ Below w.heap.size w w'

theorem take_none (A : Option Addr) (n c : Nat) (bs : List Int) (w : World) (h : RdS w w.heap.size 1 A n c (bytesV bs)) (hn : n ≤ 1048576) (hf : fits bs) (hm : mayI (firstI bs).1 (firstI bs).2 = false) :
    Calls Try.prog 20 #[.slice A n c] w (GivesT w (0, 0) bs false) := by
  have HF := Lib.hid (fun W h => first_any A n c bs W h hn hf)
  have HM := may_any (firstI bs).1 (firstI bs).2
  rw [hm] at HM
  have HC := Lib.hid (fun W h => clone_any A n c bs W h hn)
  have H := Lib.hid h
  clear h hm
  generalize (firstI bs).1 = s at *
  generalize (firstI bs).2 = m at *
  have HMM := Lib.hid (fun W => HM W)
  clear HM
  go_enter Try.func20, Try.ntmps20
  go_wp2_with (first
    | (go_at_call 28; refine (HF.out _ (by exact H.out.up (below1 _ _) (by simp))).mono ?_; rintro e w1 ⟨rfl, hb1⟩; obtain ⟨hc, hf⟩ := bcell hb1; have hsz := hb1.size; simp at hsz; have hz1 : w.heap.size < w1.heap.size := (by omega); have hz2 : w.heap.size ≤ w1.heap.size := (by omega))
    | (go_at_call 11; refine (HMM.out _).mono ?_; rintro e w2 ⟨rfl, hb2⟩; have hB2 : Below w.heap.size w w2 := (below_after1 hb1).trans (below_after1 hb2 |>.mono hz2); have hs2 := hb2.size; simp at hs2)
    | (go_at_call 29; refine (HC.out _ (by exact H.out.up hB2 (by omega))).mono ?_; rintro e w3 ⟨v3, rfl, ho3, hb3⟩; have X : Ext (w.alloc (.cells #[.int .i64 0, .int .i64 0] 23)) w3 := Ext.trans (Ext.trans hb1 (Ext.trans (below1 _ _) hb2)) hb3; have d0 : w3.cell? ⟨w.heap.size, 0, none⟩ = some (.int .i64 0) := X.cell (by go_simp); have d1 : w3.cell? ⟨w.heap.size, 1, none⟩ = some (.int .i64 0) := X.cell (by go_simp); have g0 : w3.frozen? ⟨w.heap.size, 0, none⟩ = false := (Below.frozen X (p := ⟨w.heap.size, 0, none⟩) (by simp)).trans (by go_simp); have g1 : w3.frozen? ⟨w.heap.size, 1, none⟩ = false := (Below.frozen X (p := ⟨w.heap.size, 1, none⟩) (by simp)).trans (by go_simp)))
  have hB : Below w.heap.size w w3 := hB2.trans (hb3.mono (by omega))
  have ho := ownsRow_setCell_below (ownsRow_setCell_below ho3 (a := ⟨w.heap.size, 0, none⟩) (by show w.heap.size < w2.heap.size; omega) (.int .i64 0)) (a := ⟨w.heap.size, 1, none⟩) (by show w.heap.size < w2.heap.size; omega) (.int .i64 0)
  exact bodyPost_ret (v := .tuple #[.agg #[.int .i64 0, .int .i64 0], v3, .bool false]) (by simp [results, Try.results20, go_sem, d0, d1]) rfl ⟨v3, rfl, Joins.ownsRow_le ho (by omega), (hB.setCell (by simp) _).setCell (by simp) _⟩

theorem RdS.cut_all {w : World} {B n c : Nat} {A : Option Addr} {xs : List Value} (h : RdS w B 1 A n c xs) (k : Nat) (hk : k ≤ n) (hc : c = k) (ha : A ≠ none) : RdS w B 1 A (n - k) (c - k) (xs.drop k) := by
  have hle := h.le
  have hl := h.len
  have hx : xs.drop k = [] := List.eq_nil_of_length_eq_zero (by rw [List.length_drop]; omega)
  rw [hx]
  exact ⟨by simp; omega, fun e => absurd e ha, by omega, fun a _ hn => by omega, fun a _ j u hu => by simp at hu⟩
theorem RdS.cut_at {w : World} {B n c b off : Nat} {xs : List Value} (h : RdS w B 1 (some ⟨b, off, none⟩) n c xs) (k : Nat) (hk : k ≤ n) : RdS w B 1 (some ⟨b, off + k, none⟩) (n - k) (c - k) (xs.drop k) := by
  have hle := h.le
  have hl := h.len
  refine ⟨by rw [List.length_drop]; omega, fun e => (by cases e), by omega, fun a ha hn => ?_, fun a ha j u hu => ?_⟩
  · obtain rfl := Option.some.inj ha
    exact h.low ⟨b, off, none⟩ rfl (by omega)
  · obtain rfl := Option.some.inj ha
    rw [List.getElem?_drop] at hu
    have := h.cell _ rfl _ _ hu
    rw [Addr.add_lit] at this ⊢
    rwa [Nat.add_assoc]

theorem may_four (bs : List Int) (hm : mayI (firstI bs).1 (firstI bs).2 = true) : 4 ≤ bs.length := by
  rcases Nat.lt_or_ge bs.length 4 with h | h
  · exfalso
    unfold firstI at hm
    rw [if_pos h] at hm
    revert hm
    decide
  · exact h

set_option maxRecDepth 100000 in
set_option maxHeartbeats 1000000 in
theorem take_some (b off n c : Nat) (bs : List Int) (w : World) (h : RdS w w.heap.size 1 (some ⟨b, off, none⟩) n c (bytesV bs)) (hn : n ≤ 1048576) (hf : fits bs) (hm : mayI (firstI bs).1 (firstI bs).2 = true)
    (A' : Option Addr) (hA : ∀ W : World, (Instr.slice 34 (.slice (some ⟨b, off, none⟩) n c) (some (.int .i64 4)) none none).run Try.prog W = .ok (.slice A' (n - 4) (c - 4)) W) (hr : RdS w w.heap.size 1 A' (n - 4) (c - 4) (bytesV (bs.drop 4))) :
    Calls Try.prog 20 #[.slice (some ⟨b, off, none⟩) n c] w (GivesT w (firstI bs) (bs.drop 4) true) := by
  have HF := Lib.hid (fun W h => first_any (some ⟨b, off, none⟩) n c bs W h hn hf)
  have HM := may_any (firstI bs).1 (firstI bs).2
  rw [hm] at HM
  have HC := Lib.hid (fun W h => clone_any A' (n - 4) (c - 4) (bs.drop 4) W h (by omega))
  have H := Lib.hid h
  have HR := Lib.hid hr
  clear h hm hr
  unfold GivesT
  generalize (firstI bs).1 = s at *
  generalize (firstI bs).2 = m at *
  have HMM := Lib.hid (fun W => HM W)
  clear HM
  go_enter Try.func20, Try.ntmps20
  go_wp2_with (first
    | (go_at_call 28; refine (HF.out _ (by exact H.out.up (below1 _ _) (by simp))).mono ?_; rintro e w1 ⟨rfl, hb1⟩; obtain ⟨hc, hf⟩ := bcell hb1; have hsz := hb1.size; simp at hsz; have hz1 : w.heap.size < w1.heap.size := (by omega); have hz2 : w.heap.size ≤ w1.heap.size := (by omega))
    | (go_at_call 11; refine (HMM.out _).mono ?_; rintro e w2 ⟨rfl, hb2⟩; have hB2 : Below w.heap.size w w2 := (below_after1 hb1).trans (below_after1 hb2 |>.mono hz2); have hs2 := hb2.size; simp at hs2))
  have X : Ext (w.alloc (.cells #[.int .i64 0, .int .i64 0] 23)) w2 := Ext.trans hb1 (Ext.trans (below1 _ _) hb2)
  have p0 : w2.cell? ⟨w1.heap.size, 0, none⟩ = some (.int .i64 s) := Ext.cell hb2 (by go_simp)
  have p1 : w2.cell? ⟨w1.heap.size, 1, none⟩ = some (.int .i64 m) := Ext.cell hb2 (by go_simp)
  have hne : w.heap.size ≠ w1.heap.size := by omega
  clear hc hf
  go_region_held3 (fun x => x.cell? ⟨w1.heap.size, 0, none⟩ = some (.int .i64 s) ∧ x.cell? ⟨w1.heap.size, 1, none⟩ = some (.int .i64 m))
    (first | go_keep | (go_split_ands; exact ⟨Ext.cell hb3 (by assumption), Ext.cell hb3 (by assumption)⟩))
    (first | (go_at_call 29; refine (HC.out _ (by exact HR.out.up hB2.drew (by simp; omega))).mono ?_; rintro e w3 ⟨v3, rfl, ho3, hb3⟩; have Y : Ext (w.alloc (.cells #[.int .i64 0, .int .i64 0] 23)) w3 := Ext.trans (Ext.trans X (show Ext w2 w2.drew from (Below.refl _ _).drew)) hb3; have d0 : w3.cell? ⟨w.heap.size, 0, none⟩ = some (.int .i64 0) := Y.cell (by go_simp); have d1 : w3.cell? ⟨w.heap.size, 1, none⟩ = some (.int .i64 0) := Y.cell (by go_simp); have g0 : w3.frozen? ⟨w.heap.size, 0, none⟩ = false := (Below.frozen Y (p := ⟨w.heap.size, 0, none⟩) (by simp)).trans (by go_simp); have g1 : w3.frozen? ⟨w.heap.size, 1, none⟩ = false := (Below.frozen Y (p := ⟨w.heap.size, 1, none⟩) (by simp)).trans (by go_simp)))
  go_wp2
  have hs3 := hb3.size
  simp at hs3
  have hB : Below w.heap.size w w3 := (hB2.drew).trans (hb3.mono (by simp; omega))
  have ho := ownsRow_setCell_below (ownsRow_setCell_below ho3 (a := ⟨w.heap.size, 0, none⟩) (by show w.heap.size < w2.drew.heap.size; simp; omega) (.int .i64 s)) (a := ⟨w.heap.size, 1, none⟩) (by show w.heap.size < w2.drew.heap.size; simp; omega) (.int .i64 m)
  exact bodyPost_ret (v := .tuple #[.agg #[.int .i64 s, .int .i64 m], v3, .bool true]) (by simp [results, Try.results20, go_sem, d0, d1]) rfl ⟨v3, rfl, Joins.ownsRow_le ho (by simp; omega), (hB.setCell (by simp) _).setCell (by simp) _⟩

def takeI (bs : List Int) : (Int × Int) × List Int × Bool := if mayI (firstI bs).1 (firstI bs).2 = true then (firstI bs, bs.drop 4, true) else ((0, 0), bs, false)

theorem run_cut (b off n c : Nat) (hn : 4 ≤ n) (hle : n ≤ c) (hm : n ≤ 1048576) (W : World) :
    (Instr.slice 34 (.slice (some ⟨b, off, none⟩) n c) (some (.int .i64 4)) none none).run Try.prog W = .ok (.slice (if c = 4 then some ⟨b, off, none⟩ else some ⟨b, off + 4, none⟩) (n - 4) (c - 4)) W := by
  have h1 : (4 : Int) ≤ (n : Int) := by omega
  have h2 : (n : Int) ≤ (c : Int) := by omega
  by_cases hc : c = 4
  · subst hc
    obtain rfl : n = 4 := by omega
    simp [go_sem, Try.underlying34, Instr.slice, Instr.sliceBounds, sliced]
  · simp [go_sem, Try.underlying34, Instr.slice, Instr.sliceBounds, sliced, hc, h1, h2]

theorem take_any (A : Option Addr) (n c : Nat) (bs : List Int) (w : World) (h : RdS w w.heap.size 1 A n c (bytesV bs)) (hn : n ≤ 1048576) (hf : fits bs) :
    Calls Try.prog 20 #[.slice A n c] w (GivesT w (takeI bs).1 (takeI bs).2.1 (takeI bs).2.2) := by
  unfold takeI
  cases hm : mayI (firstI bs).1 (firstI bs).2
  · simp only [Bool.false_eq_true, if_false]
    exact take_none A n c bs w h hn hf hm
  · simp only [if_true]
    have h4 := may_four bs hm
    have hl : bs.length = n := by simpa [bytesV] using h.len
    obtain ⟨_, b, off, rfl, _, _⟩ := h.bytes_at (by omega)
    have hd : bytesV (bs.drop 4) = (bytesV bs).drop 4 := by simp [bytesV]
    refine take_some b off n c bs w h hn hf hm _ (run_cut b off n c (by omega) h.le hn) ?_
    rw [hd]
    by_cases hc : c = 4
    · rw [if_pos hc]
      exact h.cut_all 4 (by omega) hc (by simp)
    · rw [if_neg hc]
      exact h.cut_at 4 (by omega)
end Go.Proofs.Ytedihfggijcciaa
