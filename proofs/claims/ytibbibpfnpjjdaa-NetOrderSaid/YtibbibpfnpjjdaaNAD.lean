/- Several texts in one. -/
import Derived.Test.YtibbibpfnpjjdaaNAC
import Derived.WalkSpells
import Derived.WalkLawsBesides
import Derived.Test.YtibbibpfnpjjdaaNAB
import Derived.LoopTactic
import Derived.Outline
import Derived.Test.YtibbibpfnpjjdaaNAA
import Derived.Lib.SliceRun
import Derived.Deep.RegionLaw
import Derived.Deep.LoopGhost

/- The contracts of a tally's calls: cells, has, Get, Add. -/
namespace Go.Proofs.Ytibbibpfnpjjdaa
open Go.RowKit

def GivesCells (w : World) (b : Nat) (go : Option Nat) (L : List Int) (e : Ending) (w' : World) : Prop :=
  ∃ g, e = .returned (.slice (some ⟨g, 0, none⟩) L.length L.length) ∧ Tl w' b (some g) L ∧ Stp w w' b go (some g)

theorem ta_cells_first (b : Nat) (L : List Int) (w : World) (h : Tl w b none L) : Calls Try.prog 41 #[.pointer (some ⟨b, 0, none⟩)] w (GivesCells w b none L) := by
  have hmf : ∀ (fn : Fn) (first cap : Array Value) (w : World), (Instr.makeFunc fn first cap).run Try.prog w = .ok (.func fn first cap) w := fun _ _ _ _ => rfl
  obtain ⟨hn, hbd, hb, hz⟩ := h
  have hb1 : Whole (w.alloc (.cells #[.pointer (some ⟨b, 0, none⟩)] 55)) b 81 (tcells L.length 0 0 (.slice none 0 0)) := hb.alloc _
  have hp1 := Whole.new_ w 55 [.pointer (some ⟨b, 0, none⟩)]
  have hlt := hb.lt
  have HB := Lib.hid hb1
  have HP := Lib.hid hp1
  have HZ := Lib.hid hz
  have HD := Lib.hid hbd
  clear hb hb1 hp1 hz hbd
  go_enter Try.func41, Try.ntmps41
  go_wp2_with (go_at_call 55; refine (ta_do_first w.heap.size b L.length hn _ (by exact HP.out) (by exact HB.out)).mono ?_; rintro e w2 ⟨rfl, g, hg, hb2, hg2, hk⟩; have c4 := hb2.cell (i := 4) rfl; have p2 := (hk.whole HP.out (by omega)).cell (i := 0) rfl)
  go_ret
  simp at hg
  have hk' : Kept (Own b none) w w2 := ((Kept.of_below ((Below.refl _ _).alloc (Nat.le_refl _) (.cells #[.pointer (some ⟨b, 0, none⟩)] 55))).trans (hk.wider (T := Own b none) (fun i _ hi => .inl hi)))
  refine ⟨g, rfl, ⟨hn, HD.out, hb2, ?_⟩, hk', .inr ⟨rfl, g, rfl, by omega⟩⟩
  rw [HZ.out, List.map_replicate]
  simpa using hg2

theorem ta_cells_again (b g : Nat) (L : List Int) (w : World) (h : Tl w b (some g) L) : Calls Try.prog 41 #[.pointer (some ⟨b, 0, none⟩)] w (GivesCells w b (some g) L) := by
  have hmf : ∀ (fn : Fn) (first cap : Array Value) (w : World), (Instr.makeFunc fn first cap).run Try.prog w = .ok (.func fn first cap) w := fun _ _ _ _ => rfl
  obtain ⟨hn, hbd, hb, hg⟩ := h
  have hlt := hb.lt
  have b1 := (hb.alloc (.cells #[.pointer (some ⟨b, 0, none⟩)] 55)).cell (i := 1) rfl
  have c4 := hb.cell (i := 4) rfl
  have HB := Lib.hid hb
  have HG := Lib.hid hg
  have HD := Lib.hid hbd
  clear hb hg hbd
  go_enter Try.func41, Try.ntmps41
  go_wp2_with (go_at_call 55; refine (ta_do_done b _ _ b1).mono ?_; rintro e w2 ⟨rfl, rfl⟩)
  go_ret
  exact ⟨g, rfl, ⟨hn, HD.out, HB.out.alloc _, HG.out.alloc _⟩, Stp.below ((Below.refl _ _).alloc (Nat.le_refl _) _)⟩

theorem ta_cells (b : Nat) (go : Option Nat) (L : List Int) (w : World) (h : Tl w b go L) : Calls Try.prog 41 #[.pointer (some ⟨b, 0, none⟩)] w (GivesCells w b go L) := by
  cases go with
  | none => exact ta_cells_first b L w h
  | some g => exact ta_cells_again b g L w h

theorem Tl.kinds {w : World} {b : Nat} {go : Option Nat} {L : List Int} (h : Tl w b go L) : w.cell? ⟨b, 0, none⟩ = some (.int .i64 (L.length : Int)) ∧ b < w.heap.size := by
  have := h.mem
  cases go with
  | none => exact ⟨this.1.cell rfl, this.1.lt⟩
  | some g => exact ⟨this.1.cell rfl, this.1.lt⟩

theorem ta_has (b : Nat) (go : Option Nat) (L : List Int) (k : Int) (w : World) (h : Tl w b go L) :
    Calls Try.prog 45 #[.pointer (some ⟨b, 0, none⟩), .int .i64 k] w fun e w' => e = .returned (.bool (decide (0 ≤ k ∧ k < L.length))) ∧ w = w' := by
  obtain ⟨c0, hlt⟩ := h.kinds
  clear h
  by_cases h1 : 0 ≤ k
  · by_cases h2 : k < L.length
    · have hd : decide (0 ≤ k ∧ k < (L.length : Int)) = true := by simp [h1, h2]
      rw [hd]
      clear hd
      go_enter Try.func45, Try.ntmps45
      go_wp2
      go_ret
      exact ⟨rfl, rfl⟩
    · have hd : decide (0 ≤ k ∧ k < (L.length : Int)) = false := by simp [h2]
      rw [hd]
      clear hd
      go_enter Try.func45, Try.ntmps45
      go_wp2
      go_ret
      exact ⟨rfl, rfl⟩
  · have hd : decide (0 ≤ k ∧ k < (L.length : Int)) = false := by simp [h1]
    rw [hd]
    clear hd
    go_enter Try.func45, Try.ntmps45
    go_wp2
    go_ret
    exact ⟨rfl, rfl⟩

theorem ret_i {a b : Int} (h : a = b) : Ending.returned (.int .i64 a) = .returned (.int .i64 b) := by rw [h]

/-- The number of a kind. -/
def getL (L : List Int) (k : Int) : Int := if 0 ≤ k ∧ k < L.length then L.getD k.toNat 0 else 0

theorem Tl.at_ {w : World} {b g : Nat} {L : List Int} (h : Tl w b (some g) L) (k : Nat) (hk : k < L.length) : w.cell? ⟨g, k, none⟩ = some (.int .i64 (L.getD k 0)) := by
  refine h.mem.2.cell ?_
  simp [hk]
theorem Tl.free {w : World} {b g : Nat} {L : List Int} (h : Tl w b (some g) L) (k : Nat) : w.frozen? ⟨g, k, none⟩ = false := h.mem.2.free k

def TaGet (w : World) (b : Nat) (go : Option Nat) (L : List Int) (k : Int) (e : Ending) (w' : World) : Prop :=
  e = .returned (.int .i64 (getL L k)) ∧ ∃ g', Tl w' b g' L ∧ Stp w w' b go g'

theorem ta_get (b : Nat) (go : Option Nat) (L : List Int) (k : Int) (w : World) (h : Tl w b go L) : Calls Try.prog 52 #[.pointer (some ⟨b, 0, none⟩), .int .i64 k] w (TaGet w b go L k) := by
  have HH := Lib.hid (ta_has b go L k w h)
  have HC := Lib.hid (ta_cells b go L w h)
  have hnot : ∀ (x : Bool) (w : World), (Op.unary .not (.bool x)).run Try.prog w = .ok (.bool (!x)) w := fun _ _ => rfl
  have H := Lib.hid h
  have hn := h.len
  clear h
  by_cases hk : 0 ≤ k ∧ k < L.length
  · obtain ⟨n, rfl⟩ := Int.eq_ofNat_of_zero_le hk.1
    have hk2 : n < L.length := by omega
    have hd : decide (0 ≤ (n : Int) ∧ (n : Int) < (L.length : Int)) = true := by simp [hk2]
    rw [hd] at HH
    have hv : getL L n = L.getD n 0 := by simp [getL, hk2]
    obtain ⟨v, gv⟩ : ∃ v, L.getD n 0 = v := ⟨_, rfl⟩
    have GV := Lib.hid gv
    rw [gv] at hv
    have HV := Lib.hid hv
    clear hd hv hk gv
    go_enter Try.func52, Try.ntmps52
    go_wp2_with (first
      | (go_at_call 45; refine (HH.out).mono ?_; rintro e w' ⟨rfl, rfl⟩)
      | (go_at_call 41; refine (HC.out).mono ?_; rintro e w2 ⟨g, rfl, ht2, hs2⟩; have hl := run_call_load (P := Try.prog) Try.func61 (by kernel_rfl) (by kernel_rfl) (by kernel_rfl) .i64 (by kernel_rfl) (by have := ht2.at_ n hk2; rw [GV.out] at this; exact this); have T2 := Lib.hid ht2; clear ht2)
      | (go_at_call 46; go_in))
    go_ret
    exact ⟨ret_i HV.out.symm, some g, T2.out, hs2⟩
  · have hd : decide (0 ≤ k ∧ k < (L.length : Int)) = false := by simpa using hk
    rw [hd] at HH
    have hv : getL L k = 0 := by simp only [getL, if_neg hk]
    have HV := Lib.hid hv
    clear hd hv hk
    go_enter Try.func52, Try.ntmps52
    go_wp2_with (first
      | (go_at_call 45; refine (HH.out).mono ?_; rintro e w' ⟨rfl, rfl⟩))
    go_ret
    exact ⟨ret_i HV.out.symm, go, H.out, Stp.refl _ _ _⟩
end Go.Proofs.Ytibbibpfnpjjdaa

/- The contract of a tally's Add. -/
namespace Go.Proofs.Ytibbibpfnpjjdaa
open Go.RowKit

def addE (L : List Int) (k n : Int) : Int := if ¬ (0 ≤ k ∧ k < L.length) ∨ n < 0 then 1 else if 1099511627776 - L.getD k.toNat 0 < n then 3 else 0
def addL (L : List Int) (k n : Int) : List Int := if addE L k n = 0 then L.set k.toNat (L.getD k.toNat 0 + n) else L

theorem addE_no {L : List Int} {k n : Int} (h : ¬ (0 ≤ k ∧ k < L.length)) : addE L k n = 1 := by simp only [addE, if_pos (Or.inl h)]
theorem addE_neg {L : List Int} {k n : Int} (h : n < 0) : addE L k n = 1 := by simp only [addE, if_pos (Or.inr h)]
theorem addE_big {L : List Int} {k n : Int} (h : 0 ≤ k ∧ k < L.length) (h0 : ¬ n < 0) (h1 : 1099511627776 - L.getD k.toNat 0 < n) : addE L k n = 3 := by
  have h2 : ¬ (¬ (0 ≤ k ∧ k < (L.length : Int)) ∨ n < 0) := fun e => e.elim (fun a => a h) h0
  simp only [addE, if_neg h2, if_pos h1]
theorem addE_ok {L : List Int} {k n : Int} (h : 0 ≤ k ∧ k < L.length) (h0 : ¬ n < 0) (h1 : ¬ 1099511627776 - L.getD k.toNat 0 < n) : addE L k n = 0 := by
  have h2 : ¬ (¬ (0 ≤ k ∧ k < (L.length : Int)) ∨ n < 0) := fun e => e.elim (fun a => a h) h0
  simp only [addE, if_neg h2, if_neg h1]
theorem addL_length (L : List Int) (k n : Int) : (addL L k n).length = L.length := by
  unfold addL
  split <;> simp
theorem addL_not {L : List Int} {k n : Int} (h : addE L k n ≠ 0) : addL L k n = L := by simp [addL, h]
theorem addL_ok {L : List Int} {k n : Int} (h : addE L k n = 0) : addL L k n = L.set k.toNat (L.getD k.toNat 0 + n) := by simp [addL, h]

theorem Tl.val {w : World} {b : Nat} {go : Option Nat} {L : List Int} (h : Tl w b go L) (k : Nat) : 0 ≤ L.getD k 0 ∧ L.getD k 0 ≤ 1099511627776 := by
  rcases Nat.lt_or_ge k L.length with hk | hk
  · rw [List.getD_eq_getElem?_getD, List.getElem?_eq_getElem hk]
    exact h.bd _ (List.getElem_mem hk)
  · rw [List.getD_eq_getElem?_getD, List.getElem?_eq_none hk]
    exact ⟨by simp, by simp⟩

theorem Tl.set_ {w : World} {b g : Nat} {L : List Int} (h : Tl w b (some g) L) (k : Nat) (x : Int) (h0 : 0 ≤ x) (h1 : x ≤ 1099511627776) :
    Tl (w.setCell ⟨g, k, none⟩ (.int .i64 x)) b (some g) (L.set k x) := by
  obtain ⟨hn, hbd, hb, hg⟩ := h
  have hne : b ≠ g := hb.ne_ hg (by decide)
  refine ⟨by simpa using hn, fun y hy => ?_, ?_, ?_⟩
  · rcases List.mem_or_eq_of_mem_set hy with hy | rfl
    · exact hbd y hy
    · exact ⟨h0, h1⟩
  · rw [List.length_set]
    exact hb.far hne _
  · rw [List.map_set]
    exact hg.set_ k _

def TaAdd (w : World) (b : Nat) (go : Option Nat) (L : List Int) (k n : Int) (e : Ending) (w' : World) : Prop :=
  e = .returned (.int .i64 (addE L k n)) ∧ ∃ g', Tl w' b g' (addL L k n) ∧ Stp w w' b go g'

set_option maxHeartbeats 400000 in
theorem ta_add_in (b : Nat) (go : Option Nat) (L : List Int) (k : Nat) (n : Int) (w : World) (h : Tl w b go L) (hk : k < L.length) (hn0 : ¬ n < 0) : Calls Try.prog 28 #[.pointer (some ⟨b, 0, none⟩), .int .i64 (k : Int), .int .i64 n] w (TaAdd w b go L k n) := by
  have HH := Lib.hid (ta_has b go L k w h)
  have HC := Lib.hid (ta_cells b go L w h)
  have hnot : ∀ (x : Bool) (w : World), (Op.unary .not (.bool x)).run Try.prog w = .ok (.bool (!x)) w := fun _ _ => rfl
  have H := Lib.hid h
  have hn := h.len
  obtain ⟨hv0, hv1⟩ := h.val k
  clear h
  have hd : decide (0 ≤ (k : Int) ∧ (k : Int) < (L.length : Int)) = true := by simp [hk]
  rw [hd] at HH
  have hin : 0 ≤ (k : Int) ∧ (k : Int) < (L.length : Int) := by omega
  obtain ⟨v, gv⟩ : ∃ v, L.getD k 0 = v := ⟨_, rfl⟩
  rw [gv] at hv0 hv1
  have GV := Lib.hid gv
  by_cases hbig : 1099511627776 - v < n
  · have HE := Lib.hid (addE_big hin hn0 (by rw [Int.toNat_natCast, gv]; exact hbig))
    clear hd gv hin
    go_enter Try.func28, Try.ntmps28
    go_wp2_with (first
      | (go_at_call 45; refine (HH.out).mono ?_; rintro e w' ⟨rfl, rfl⟩)
      | (go_at_call 41; refine (HC.out).mono ?_; rintro e w2 ⟨g, rfl, ht2, hs2⟩; have hl := run_call_load (P := Try.prog) Try.func61 (by kernel_rfl) (by kernel_rfl) (by kernel_rfl) .i64 (by kernel_rfl) (by have := ht2.at_ k hk; rw [GV.out] at this; exact this); have T2 := Lib.hid ht2; clear ht2)
      | (go_at_call 46; go_in))
    refine wp_loop_rounds 1 ?_
    rw [rounds_succ]
    go_wp2_with (first
      | (go_at_call 46; go_in))
    go_ret
    exact ⟨ret_i HE.out.symm, some g, by rw [addL_not (by rw [HE.out]; decide)]; exact T2.out, hs2⟩
  · have HE := Lib.hid (addE_ok hin hn0 (by rw [Int.toNat_natCast, gv]; exact hbig))
    clear hd gv hin
    go_enter Try.func28, Try.ntmps28
    go_wp2_with (first
      | (go_at_call 45; refine (HH.out).mono ?_; rintro e w' ⟨rfl, rfl⟩)
      | (go_at_call 41; refine (HC.out).mono ?_; rintro e w2 ⟨g, rfl, ht2, hs2⟩; have hl := run_call_load (P := Try.prog) Try.func61 (by kernel_rfl) (by kernel_rfl) (by kernel_rfl) .i64 (by kernel_rfl) (by have := ht2.at_ k hk; rw [GV.out] at this; exact this)
         have hcas := run_call_cas_hit (P := Try.prog) Try.func62 (by kernel_rfl) (by kernel_rfl) (by kernel_rfl) .i64 (by kernel_rfl) (y := v + n) (by have := ht2.at_ k hk; rw [GV.out] at this; exact this) (ht2.free k); have T2 := Lib.hid ht2; clear ht2)
      | (go_at_call 46; go_in))
    refine wp_loop_rounds 1 ?_
    rw [rounds_succ]
    go_wp2_with (first
      | (go_at_call 46; go_in)
      | (go_at_call 47; go_in))
    go_ret
    refine ⟨ret_i HE.out.symm, some g, ?_, hs2.trans ⟨(Kept.refl _ _).setCell (.inl (.inr rfl)) _, .inl rfl⟩⟩
    rw [addL_ok HE.out, Int.toNat_natCast, GV.out]
    exact T2.out.set_ k _ (by omega) (by omega)

theorem ta_add (b : Nat) (go : Option Nat) (L : List Int) (k n : Int) (w : World) (h : Tl w b go L) : Calls Try.prog 28 #[.pointer (some ⟨b, 0, none⟩), .int .i64 k, .int .i64 n] w (TaAdd w b go L k n) := by
  by_cases hk : 0 ≤ k ∧ k < L.length
  · obtain ⟨m, rfl⟩ := Int.eq_ofNat_of_zero_le hk.1
    by_cases hn0 : n < 0
    · have HH := Lib.hid (ta_has b go L m w h)
      have hnot : ∀ (x : Bool) (w : World), (Op.unary .not (.bool x)).run Try.prog w = .ok (.bool (!x)) w := fun _ _ => rfl
      have H := Lib.hid h
      clear h
      have hd : decide (0 ≤ (m : Int) ∧ (m : Int) < (L.length : Int)) = true := by simp; omega
      rw [hd] at HH
      have HE := Lib.hid (addE_neg (L := L) (k := m) hn0)
      clear hd hk
      go_enter Try.func28, Try.ntmps28
      go_wp2_with (first
        | (go_at_call 45; refine (HH.out).mono ?_; rintro e w' ⟨rfl, rfl⟩))
      go_ret
      exact ⟨ret_i HE.out.symm, go, by rw [addL_not (by rw [HE.out]; decide)]; exact H.out, Stp.refl _ _ _⟩
    · exact ta_add_in b go L m n w h (by omega) hn0
  · have HH := Lib.hid (ta_has b go L k w h)
    have hnot : ∀ (x : Bool) (w : World), (Op.unary .not (.bool x)).run Try.prog w = .ok (.bool (!x)) w := fun _ _ => rfl
    have H := Lib.hid h
    clear h
    have hd : decide (0 ≤ k ∧ k < (L.length : Int)) = false := by simpa using hk
    rw [hd] at HH
    have HE := Lib.hid (addE_no (n := n) hk)
    clear hd hk
    go_enter Try.func28, Try.ntmps28
    go_wp2_with (first
      | (go_at_call 45; refine (HH.out).mono ?_; rintro e w' ⟨rfl, rfl⟩))
    go_ret
    exact ⟨ret_i HE.out.symm, go, by rw [addL_not (by rw [HE.out]; decide)]; exact H.out, Stp.refl _ _ _⟩
end Go.Proofs.Ytibbibpfnpjjdaa

/- The net in numbers: bytes on their way, and six counts. -/
namespace Go.Proofs.Ytibbibpfnpjjdaa
open Go.RowKit
set_option linter.unusedSimpArgs false
set_option linter.unusedVariables false

abbrev NtS := List (List Nat) × List Int
def bump (T : List Int) (k : Nat) : List Int := T.set k (T.getD k 0 + 1)
def zeroN : NtS := ([], [0, 0, 0, 0, 0, 0])
def sends (s : NtS) (f : FrT × List Nat) : Nat := if mayF f.1 f.2.length = 0 ∧ s.1.length < 4096 then 1 else 0
def send1 (s : NtS) (f : FrT × List Nat) : NtS := if mayF f.1 f.2.length = 0 then (if s.1.length < 4096 then (s.1 ++ [putF f.1 f.2], bump s.2 0) else (s.1, bump s.2 1)) else s
def sendN : NtS → List (FrT × List Nat) → NtS
  | s, [] => s
  | s, f :: l => sendN (send1 s f) l
def sentN : NtS → List (FrT × List Nat) → Nat
  | _, [] => 0
  | s, f :: l => sends s f + sentN (send1 s f) l
def hasN (s : NtS) (i : Int) : Bool := decide (0 ≤ i ∧ i < s.1.length)
def atN (s : NtS) (i : Int) : List Nat := s.1.getD i.toNat []
def goneN (s : NtS) (i : Int) (k : Nat) : NtS := (s.1.eraseIdx i.toNat, bump s.2 k)
def delivN (s : NtS) (i : Int) : NtS := if hasN s i = true then goneN s i (if okF (atN s i) = true then 2 else 3) else s
def dropN (s : NtS) (i : Int) : NtS := if hasN s i = true then goneN s i 4 else s
def doubN (s : NtS) (i : Int) : NtS := if hasN s i = true ∧ s.1.length < 4096 then (s.1 ++ [atN s i], bump s.2 5) else s
def flip1 (b : Nat) : Nat := if b % 2 = 0 then b + 1 else b - 1
def turnN (s : NtS) (i a : Int) : NtS := if hasN s i = true ∧ 0 ≤ a ∧ a < (atN s i).length then (s.1.set i.toNat ((atN s i).set a.toNat (flip1 ((atN s i).getD a.toNat 0))), s.2) else s
/-- What never changes: each that was sent or doubled is on its way, or told of. -/
structure NtOk (s : NtS) : Prop where
  six : s.2.length = 6
  sum : s.2.getD 0 0 + s.2.getD 5 0 = (s.1.length : Int) + s.2.getD 2 0 + s.2.getD 3 0 + s.2.getD 4 0
  max : s.1.length ≤ 4096
  bytes : ∀ L ∈ s.1, L.length ≤ 16403 ∧ ∀ b ∈ L, b < 256
theorem six_is {T : List Int} (h : T.length = 6) : ∃ a b c d e f, T = [a, b, c, d, e, f] := by
  match T, h with
  | [a, b, c, d, e, f], _ => exact ⟨a, b, c, d, e, f, rfl⟩
theorem bump_len (T : List Int) (k : Nat) : (bump T k).length = T.length := by simp [bump]
theorem zeroN_ok : NtOk zeroN := ⟨rfl, by decide, by decide, fun L h => by cases h⟩
theorem NtOk.gone {s : NtS} (h : NtOk s) {i : Int} (hi : hasN s i = true) {k : Nat} (hk : k = 2 ∨ k = 3 ∨ k = 4) : NtOk (goneN s i k) := by
  obtain ⟨h1, h2⟩ := of_decide_eq_true hi
  have hl : (s.1.eraseIdx i.toNat).length = s.1.length - 1 := by rw [List.length_eraseIdx]; rw [if_pos (by omega)]
  obtain ⟨a, b, c, d, e, f, hT⟩ := six_is h.six
  have hs := h.sum
  have hm := h.max
  rw [hT] at hs
  refine ⟨by show (bump s.2 k).length = 6; rw [bump_len, h.six], ?_, by show (s.1.eraseIdx i.toNat).length ≤ 4096; omega, fun L hL => h.bytes L (List.mem_of_mem_eraseIdx hL)⟩
  show (bump s.2 k).getD 0 0 + (bump s.2 k).getD 5 0 = ((s.1.eraseIdx i.toNat).length : Int) + (bump s.2 k).getD 2 0 + (bump s.2 k).getD 3 0 + (bump s.2 k).getD 4 0
  rw [hl, hT]
  simp only [List.getD_cons_zero, List.getD_cons_succ] at hs
  rcases hk with rfl | rfl | rfl <;> simp [bump] <;> omega
theorem NtOk.deliv {s : NtS} (h : NtOk s) (i : Int) : NtOk (delivN s i) := by
  unfold delivN
  by_cases hi : hasN s i = true
  · rw [if_pos hi]
    split
    · exact h.gone hi (.inl rfl)
    · exact h.gone hi (.inr (.inl rfl))
  · rw [if_neg hi]; exact h
theorem NtOk.drop {s : NtS} (h : NtOk s) (i : Int) : NtOk (dropN s i) := by
  unfold dropN
  by_cases hi : hasN s i = true
  · rw [if_pos hi]; exact h.gone hi (.inr (.inr rfl))
  · rw [if_neg hi]; exact h
theorem NtOk.more {s : NtS} (h : NtOk s) {L : List Nat} (hL : L.length ≤ 16403 ∧ ∀ b ∈ L, b < 256) (hm : s.1.length < 4096) {k : Nat} (hk : k = 0 ∨ k = 5) : NtOk (s.1 ++ [L], bump s.2 k) := by
  obtain ⟨a, b, c, d, e, f, hT⟩ := six_is h.six
  have hs := h.sum
  rw [hT] at hs
  simp only [List.getD_cons_zero, List.getD_cons_succ] at hs
  refine ⟨by show (bump s.2 k).length = 6; rw [bump_len, h.six], ?_, by show (s.1 ++ [L]).length ≤ 4096; rw [List.length_append]; simp; omega, fun M hM => ?_⟩
  · show (bump s.2 k).getD 0 0 + (bump s.2 k).getD 5 0 = ((s.1 ++ [L]).length : Int) + (bump s.2 k).getD 2 0 + (bump s.2 k).getD 3 0 + (bump s.2 k).getD 4 0
    rw [List.length_append, hT]
    rcases hk with rfl | rfl <;> simp [bump] <;> omega
  · rcases List.mem_append.1 hM with hM | hM
    · exact h.bytes M hM
    · rw [List.mem_singleton.1 hM]; exact hL
theorem atN_mem {s : NtS} {i : Int} (hi : hasN s i = true) : atN s i ∈ s.1 := by
  obtain ⟨h1, h2⟩ := of_decide_eq_true hi
  unfold atN
  rw [List.getD_eq_getElem?_getD, List.getElem?_eq_getElem (by omega)]
  exact List.getElem_mem _
theorem NtOk.doub {s : NtS} (h : NtOk s) (i : Int) : NtOk (doubN s i) := by
  unfold doubN
  by_cases hi : hasN s i = true ∧ s.1.length < 4096
  · rw [if_pos hi]; exact h.more (h.bytes _ (atN_mem hi.1)) hi.2 (.inr rfl)
  · rw [if_neg hi]; exact h
theorem flip_lt {b : Nat} (h : b < 256) : flip1 b < 256 := by unfold flip1; split <;> omega
theorem NtOk.turn {s : NtS} (h : NtOk s) (i a : Int) : NtOk (turnN s i a) := by
  unfold turnN
  by_cases hi : hasN s i = true ∧ 0 ≤ a ∧ a < (atN s i).length
  · rw [if_pos hi]
    have hb := h.bytes _ (atN_mem hi.1)
    refine ⟨h.six, by have := h.sum; simpa using this, by have := h.max; simpa using this, fun L hL => ?_⟩
    rcases List.mem_or_eq_of_mem_set hL with hL | rfl
    · exact h.bytes L hL
    · refine ⟨by rw [List.length_set]; exact hb.1, fun x hx => ?_⟩
      rcases List.mem_or_eq_of_mem_set hx with hx | rfl
      · exact hb.2 x hx
      · refine flip_lt ?_
        rw [List.getD_eq_getElem?_getD, List.getElem?_eq_getElem (by omega)]
        exact hb.2 _ (List.getElem_mem _)
  · rw [if_neg hi]; exact h
end Go.Proofs.Ytibbibpfnpjjdaa

/- The net in numbers: Send keeps what never changes. -/
namespace Go.Proofs.Ytibbibpfnpjjdaa
open Go.RowKit
set_option linter.unusedSimpArgs false
set_option linter.unusedVariables false

theorem mayF_body {f : FrT} {n : Nat} (h : mayF f n = 0) : n ≤ 16384 := by
  unfold mayF at h
  split at h
  · split at h
    · exact absurd h (by decide)
    · omega
  · exact absurd h (by decide)
theorem NtOk.send1 {s : NtS} (h : NtOk s) (f : FrT × List Nat) (hb : ∀ b ∈ f.2, b < 256) : NtOk (send1 s f) := by
  unfold Go.Proofs.Ytibbibpfnpjjdaa.send1
  by_cases hf : mayF f.1 f.2.length = 0
  · rw [if_pos hf]
    by_cases hm : s.1.length < 4096
    · rw [if_pos hm]
      exact h.more ⟨by rw [putF_len]; have := mayF_body hf; omega, putF_lt hf hb⟩ hm (.inl rfl)
    · rw [if_neg hm]
      obtain ⟨a, b, c, d, e, g, hT⟩ := six_is h.six
      have hs := h.sum
      rw [hT] at hs
      simp only [List.getD_cons_zero, List.getD_cons_succ] at hs
      refine ⟨by show (bump s.2 1).length = 6; rw [bump_len, h.six], ?_, h.max, h.bytes⟩
      show (bump s.2 1).getD 0 0 + (bump s.2 1).getD 5 0 = (s.1.length : Int) + (bump s.2 1).getD 2 0 + (bump s.2 1).getD 3 0 + (bump s.2 1).getD 4 0
      rw [hT]
      simp [bump]
      omega
  · rw [if_neg hf]; exact h
theorem NtOk.sends : ∀ (l : List (FrT × List Nat)) (s : NtS), NtOk s → (∀ f ∈ l, ∀ b ∈ f.2, b < 256) → NtOk (sendN s l)
  | [], _, h, _ => h
  | f :: l, s, h, hb => by
    show NtOk (sendN (Go.Proofs.Ytibbibpfnpjjdaa.send1 s f) l)
    exact NtOk.sends l _ (h.send1 f (hb f (by simp))) (fun g hg => hb g (by simp [hg]))
end Go.Proofs.Ytibbibpfnpjjdaa

/- The net: Len, has. -/
namespace Go.Proofs.Ytibbibpfnpjjdaa
open Go.RowKit
set_option linter.unusedSimpArgs false
set_option linter.unusedVariables false

abbrev ntC (A : Option Addr) (n c t : Nat) : List Value := [.slice A n c, .pointer (some ⟨t, 0, none⟩)]
theorem nt_len (g : Nat) (A : Option Addr) (n c t : Nat) (w : World) (h : Whole w g 58 (ntC A n c t)) : Calls Try.prog 14 #[.pointer (some ⟨g, 0, none⟩)] w fun e w' => e = .returned (.int .i64 (n : Int)) ∧ w' = w := by
  have l0 := h.cell (i := 0) rfl
  clear h
  go_enter Try.func14, Try.ntmps14
  go_wp2
  go_ret
  exact ⟨rfl, rfl⟩
theorem nt_has (g : Nat) (A : Option Addr) (n c t : Nat) (i : Int) (w : World) (h : Whole w g 58 (ntC A n c t)) : Calls Try.prog 29 #[.pointer (some ⟨g, 0, none⟩), .int .i64 i] w fun e w' => e = .returned (.bool (decide (0 ≤ i ∧ i < (n : Int)))) ∧ w' = w := by
  have l0 := h.cell (i := 0) rfl
  clear h
  by_cases h0 : 0 ≤ i
  · by_cases h1 : i < (n : Int)
    · have hq : decide (0 ≤ i ∧ i < (n : Int)) = true := decide_eq_true ⟨h0, h1⟩
      rw [hq]
      clear hq
      go_enter Try.func29, Try.ntmps29
      go_wp2
      go_ret
      exact ⟨rfl, rfl⟩
    · have hq : decide (0 ≤ i ∧ i < (n : Int)) = false := decide_eq_false (fun q => h1 q.2)
      rw [hq]
      clear hq
      go_enter Try.func29, Try.ntmps29
      go_wp2
      go_ret
      exact ⟨rfl, rfl⟩
  · have hq : decide (0 ≤ i ∧ i < (n : Int)) = false := decide_eq_false (fun q => h0 q.1)
    rw [hq]
    clear hq
    go_enter Try.func29, Try.ntmps29
    go_wp2
    go_ret
    exact ⟨rfl, rfl⟩
end Go.Proofs.Ytibbibpfnpjjdaa

/- The contracts of a tally's New, All, Sum. -/
namespace Go.Proofs.Ytibbibpfnpjjdaa
open Go.RowKit

def kn (k : Int) : Nat := (min (max k 0) 64).toNat
def GivesNew (w : World) (k : Int) (e : Ending) (w' : World) : Prop :=
  ∃ b, e = .returned (.pointer (some ⟨b, 0, none⟩)) ∧ w.heap.size ≤ b ∧ Tl w' b none (List.replicate (kn k) 0) ∧ Below w.heap.size w w'

theorem tl_new (w : World) (n : Nat) (hn : n ≤ 64) : Tl (w.alloc (.cells #[.int .i64 n, .int .u32 0, .int .i32 0, .int .u32 0, .slice none 0 0] 81)) w.heap.size none (List.replicate n 0) := by
  refine ⟨by simpa using hn, fun x hx => ?_, ?_, by simp⟩
  · obtain ⟨-, rfl⟩ := List.mem_replicate.1 hx
    omega
  · rw [List.length_replicate]
    exact Whole.new_ w _ _

theorem ta_new (k : Int) (w : World) : Calls Try.prog 24 #[.int .i64 k] w (GivesNew w k) := by
  have HB := Lib.hid (fun (o : Obj) => (Below.refl w.heap.size w).alloc (Nat.le_refl _) o)
  by_cases h0 : 0 ≤ k
  · by_cases h1 : k ≤ 64
    · obtain ⟨n, rfl⟩ := Int.eq_ofNat_of_zero_le h0
      have hk : kn n = n := by unfold kn; omega
      have HK := Lib.hid hk
      have HT := Lib.hid (tl_new w n (by omega))
      have hmn : min ((n : Nat) : Int) 64 = (n : Int) := by omega
      have hmx : max ((n : Nat) : Int) 0 = (n : Int) := by omega
      clear hk
      go_enter Try.func24, Try.ntmps24
      go_wp2
      go_ret
      exact ⟨w.heap.size, rfl, Nat.le_refl _, by rw [HK.out]; exact HT.out, HB.out _⟩
    · have hk : kn k = 64 := by unfold kn; omega
      have HK := Lib.hid hk
      have HT := Lib.hid (tl_new w 64 (by omega))
      have hmn : min (max k 0) 64 = 64 := by omega
      clear hk
      go_enter Try.func24, Try.ntmps24
      go_wp2
      go_ret
      exact ⟨w.heap.size, rfl, Nat.le_refl _, by rw [HK.out]; exact HT.out, HB.out _⟩
  · have hk : kn k = 0 := by unfold kn; omega
    have HK := Lib.hid hk
    have HT := Lib.hid (tl_new w 0 (by omega))
    have hmn : min (max k 0) 64 = 0 := by omega
    clear hk
    go_enter Try.func24, Try.ntmps24
    go_wp2
    go_ret
    exact ⟨w.heap.size, rfl, Nat.le_refl _, by rw [HK.out]; exact HT.out, HB.out _⟩

theorem ta_make_ints (ks : Nat) (hk : ks ≤ 64) (W : World) : (Instr.makeSlice 43 (.int .i64 (ks : Int)) (.int .i64 (ks : Int))).run Try.prog W = .ok (.slice (some ⟨W.heap.size, 0, none⟩) ks ks) (W.alloc (.cells (Array.replicate ks (Value.int .i64 0)) 3)) := by
  obtain ⟨i0, hi, hz0, hz1, hz2⟩ := info_parts info_int
  have := run_make (P := Try.prog) W 43 3 i0 (.int .i64 0) Try.underlying43 hi hz0 .i64 .i64 (ks : Int) (ks : Int) (by omega) (by omega) (by rw [hz2]; omega) (by omega)
  rw [hz1] at this
  simp only [Int.toNat_natCast, Nat.mul_one, Value.cells, made_one] at this
  exact this

def ints (L : List Int) : List Value := L.map (.int .i64)
def GivesAll (w : World) (b : Nat) (go : Option Nat) (L : List Int) (e : Ending) (w' : World) : Prop :=
  ∃ h, e = .returned (.slice (some ⟨h, 0, none⟩) L.length L.length) ∧ w.heap.size ≤ h ∧ Whole w' h 3 (ints L) ∧ ∃ g', Tl w' b g' L ∧ Stp w w' b go g'

/-- What holds at each round of All. -/
structure AllIn (w : World) (b h : Nat) (go : Option Nat) (L : List Int) (k : Nat) (x : World) : Prop where
  hh : w.heap.size ≤ h
  row : Whole x h 3 (ints (L.take k ++ List.replicate (L.length - k) 0))
  t : ∃ g', Tl x b g' L ∧ Stp w x b go g'

theorem take_fill (L : List Int) (k : Nat) (hk : k < L.length) : (L.take k ++ List.replicate (L.length - k) 0).set k (L.getD k 0) = L.take (k + 1) ++ List.replicate (L.length - (k + 1)) 0 := by
  apply List.ext_getElem?
  intro j
  have hl : (L.take k).length = k := by simp; omega
  rw [List.getElem?_set]
  by_cases e : k = j
  · subst e
    rw [if_pos rfl, if_pos (by simp; omega), List.getElem?_append_left (by simp; omega)]
    simp [hk]
  · rw [if_neg e]
    rcases Nat.lt_or_ge j k with h | h
    · rw [List.getElem?_append_left (by omega), List.getElem?_append_left (by simp; omega), List.getElem?_take, List.getElem?_take, if_pos h, if_pos (by omega)]
    · rw [List.getElem?_append_right (by omega), List.getElem?_append_right (by simp; omega), hl, List.getElem?_replicate, List.getElem?_replicate]
      simp only [List.length_take]
      rw [show min (k + 1) L.length = k + 1 by omega]
      by_cases h1 : j < L.length
      · rw [if_pos (by omega), if_pos (by omega)]
      · rw [if_neg (by omega), if_neg (by omega)]

theorem fill_at (L : List Int) (k : Nat) (hk : k < L.length) : (ints (L.take k ++ List.replicate (L.length - k) 0))[k]? = some (.int .i64 0) := by
  have hl : (L.take k).length = k := by simp; omega
  rw [ints, List.getElem?_map, List.getElem?_append_right (by omega), hl, List.getElem?_replicate, if_pos (by omega)]
  rfl

theorem AllIn.next {w x y : World} {b h : Nat} {go g1 g2 : Option Nat} {L : List Int} {k : Nat} (hI : Whole x h 3 (ints (L.take k ++ List.replicate (L.length - k) 0))) (hh : w.heap.size ≤ h) (hk : k < L.length) (hs : Stp w x b go g1) (ht : Tl x b g1 L)
    (ht2 : Tl y b g2 L) (hs2 : Stp x y b g1 g2) : AllIn w b h go L (k + 1) (y.setCell ⟨h, k, none⟩ (.int .i64 (L.getD k 0))) := by
  have hne : ¬ Own b g1 h := by
    rintro (rfl | e)
    · cases g1 with
      | none => exact (ht.mem.1.ne_ hI (by decide)) rfl
      | some g => exact (ht.mem.1.ne_ hI (by decide)) rfl
    · subst e
      exact (ht.mem.2.ne_ hI (by decide)) rfl
  have h1 : Whole y h 3 (ints (L.take k ++ List.replicate (L.length - k) 0)) := hs2.k.whole hI hne
  refine ⟨hh, ?_, g2, ?_, ?_⟩
  · rw [← take_fill L k hk, ints, List.map_set]
    exact h1.set_ k _
  · obtain ⟨a1, a2, a3⟩ := ht2
    refine ⟨a1, a2, ?_⟩
    cases g2 with
    | none => exact ⟨a3.1.far (a3.1.ne_ h1 (by decide)) _, a3.2⟩
    | some g => exact ⟨a3.1.far (a3.1.ne_ h1 (by decide)) _, a3.2.far (a3.2.ne_ h1 (by decide)) _⟩
  · exact ⟨(hs.trans hs2).k.setCell (.inr hh) _, (hs.trans hs2).n⟩

set_option maxHeartbeats 400000 in
theorem ta_all (b : Nat) (go : Option Nat) (L : List Int) (w : World) (h : Tl w b go L) : Calls Try.prog 37 #[.pointer (some ⟨b, 0, none⟩)] w (GivesAll w b go L) := by
  have hmk := ta_make_ints L.length h.len
  obtain ⟨c0, hlt⟩ := h.kinds
  have hn := h.len
  have hstart : AllIn w b w.heap.size go L 0 (w.alloc (.cells (Array.replicate L.length (Value.int .i64 0)) 3)) := by
    refine ⟨Nat.le_refl _, ?_, go, ?_, Stp.below ((Below.refl _ _).alloc (Nat.le_refl _) _)⟩
    · have := Whole.new_ w 3 (List.replicate L.length (.int .i64 0))
      simpa [ints] using this
    · obtain ⟨a1, a2, a3⟩ := h
      refine ⟨a1, a2, ?_⟩
      cases go with
      | none => exact ⟨a3.1.alloc _, a3.2⟩
      | some g => exact ⟨a3.1.alloc _, a3.2.alloc _⟩
  have HS := Lib.hid hstart
  clear h hstart
  go_enter Try.func37, Try.ntmps37
  go_wp2
  go_loopw [12] (fun i wr => ∃ k : Nat, k ≤ L.length ∧ i = .int .i64 k ∧ AllIn w b w.heap.size go L k wr) (fun i _ => L.length - (intOf i).toNat)
  case atStart => exact ⟨0, Nat.zero_le _, rfl, HS.out⟩
  case round =>
    obtain ⟨k, hk, rfl, hI⟩ := hrel
    obtain ⟨hh, hrow, g1, ht, hs⟩ := hI
    by_cases hlt2 : k < L.length
    · have HR := Lib.hid hrow
      have HT := Lib.hid ht
      have HSt := Lib.hid hs
      have HG := Lib.hid (ta_get b g1 L k wr ht)
      have hgv : getL L k = L.getD k 0 := by simp [getL, hlt2]
      have HGV := Lib.hid hgv
      obtain ⟨v, gv⟩ : ∃ v, getL L k = v := ⟨_, rfl⟩
      have GV := Lib.hid gv
      have hz := Lib.hid hh
      clear hrow ht hs hgv gv hh
      go_wp2_with (first
        | (go_at_call 52; refine (HG.out).mono ?_; rintro e w2 ⟨rfl, g2, ht2, hs2⟩; rw [GV.out]
           have hA := Lib.hid (AllIn.next HR.out hz.out hlt2 HSt.out HT.out ht2 hs2)
           have hne : ¬ Own b g1 w.heap.size := (by
             rintro (h1 | e)
             · omega
             · subst e
               exact (HT.out.mem.2.ne_ HR.out (by decide)) rfl)
           have h1 := hs2.k.whole HR.out hne
           have cc : w2.cell? ⟨w.heap.size, k, none⟩ = some (.int .i64 0) := h1.cell (fill_at L k hlt2)
           have cf := h1.free k
           clear hne h1 ht2 hs2))
      go_roundw
      case rel =>
        refine ⟨k + 1, by omega, by go_num, ?_⟩
        have := hA.out
        rw [← HGV.out, GV.out] at this
        exact this
      case measure => simp [intOf]; omega
    · obtain rfl : k = L.length := by omega
      have HR := Lib.hid hrow
      have HT := Lib.hid ht
      have HSt := Lib.hid hs
      clear hrow ht hs
      go_wp2
      go_ret
      refine ⟨w.heap.size, rfl, Nat.le_refl _, ?_, g1, HT.out, HSt.out⟩
      have := HR.out
      simpa using this
end Go.Proofs.Ytibbibpfnpjjdaa

/- The contracts of a tally's Sum and Clone. -/
namespace Go.Proofs.Ytibbibpfnpjjdaa
open Go.RowKit

def TaSum (w : World) (b : Nat) (go : Option Nat) (L : List Int) (e : Ending) (w' : World) : Prop :=
  e = .returned (.int .i64 L.sum) ∧ ∃ g', Tl w' b g' L ∧ Stp w w' b go g'

theorem sum_bd (L : List Int) (hb : ∀ x ∈ L, 0 ≤ x ∧ x ≤ 1099511627776) : 0 ≤ L.sum ∧ L.sum ≤ 1099511627776 * L.length := by
  induction L with
  | nil => simp
  | cons x L ih =>
    have h1 := ih (fun y hy => hb y (List.mem_cons_of_mem _ hy))
    have h2 := hb x List.mem_cons_self
    simp only [List.sum_cons, List.length_cons]
    omega
theorem sum_take (L : List Int) (k : Nat) (hk : k < L.length) : (L.take (k + 1)).sum = (L.take k).sum + L.getD k 0 := by
  rw [List.take_succ_eq_append_getElem hk, List.sum_append, List.getD_eq_getElem?_getD, List.getElem?_eq_getElem hk]
  simp
theorem ints_at (L : List Int) (k : Nat) (hk : k < L.length) : (ints L)[k]? = some (.int .i64 (L.getD k 0)) := by simp [ints, hk]
theorem take_bd (L : List Int) (k : Nat) (hb : ∀ x ∈ L, 0 ≤ x ∧ x ≤ 1099511627776) (hn : L.length ≤ 64) : 0 ≤ (L.take k).sum ∧ (L.take k).sum ≤ 1099511627776 * 64 := by
  have h1 := sum_bd (L.take k) (fun x hx => hb x (List.mem_of_mem_take hx))
  have h2 : (L.take k).length ≤ L.length := by simp; omega
  omega

/-- One tally's steps leave another's as it was. -/
theorem Tl.far {w w' : World} {b b' : Nat} {go g' : Option Nat} {L L' : List Int} (h : Tl w b' g' L') (h0 : Tl w b go L) (k : Kept (Own b go) w w') (hb : b' ≠ b) (hg : g' = none ∨ g' ≠ go) : Tl w' b' g' L' := by
  obtain ⟨a1, a2, a3⟩ := h
  have hbg : ∀ x, Whole w b' 81 x → ¬ Own b go b' := fun x hx => by
    rintro (e | e)
    · exact hb e
    · subst e
      exact (hx.ne_ h0.mem.2 (by decide)) rfl
  refine ⟨a1, a2, ?_⟩
  cases g' with
  | none => exact ⟨k.whole a3.1 (hbg _ a3.1), a3.2⟩
  | some g =>
    refine ⟨k.whole a3.1 (hbg _ a3.1), k.whole a3.2 ?_⟩
    rintro (e | e)
    · subst e
      cases go with
      | none => exact (a3.2.ne_ h0.mem.1 (by decide)) rfl
      | some x => exact (a3.2.ne_ h0.mem.1 (by decide)) rfl
    · rcases hg with hg | hg
      · cases hg
      · exact hg e

theorem Tl.below {w w' : World} {b : Nat} {go : Option Nat} {L : List Int} (h : Tl w b go L) (k : Below w.heap.size w w') : Tl w' b go L := by
  obtain ⟨a1, a2, a3⟩ := h
  refine ⟨a1, a2, ?_⟩
  cases go with
  | none => exact ⟨a3.1.below k, a3.2⟩
  | some g => exact ⟨a3.1.below k, a3.2.below k⟩
theorem Tl.lt {w : World} {b : Nat} {go : Option Nat} {L : List Int} (h : Tl w b go L) : b < w.heap.size ∧ ∀ g, go = some g → g < w.heap.size := by
  refine ⟨h.kinds.2, fun g e => ?_⟩
  subst e
  exact h.mem.2.lt
/-- A plain block is none of a tally's. -/
theorem Tl.own {w : World} {b h : Nat} {go : Option Nat} {L : List Int} {t : TypeId} {cs : List Value} (ht : Tl w b go L) (hr : Whole w h t cs) (h1 : t ≠ 81) (h2 : t ≠ 84) : ¬ Own b go h := by
  rintro (rfl | e)
  · cases go with
    | none => exact (hr.ne_ ht.mem.1 h1) rfl
    | some g => exact (hr.ne_ ht.mem.1 h1) rfl
  · subst e
    exact (hr.ne_ ht.mem.2 h2) rfl

/-- What Clone answers: a tally of its own beside the elder one. -/
def GivesClone (w : World) (b : Nat) (go : Option Nat) (L : List Int) (e : Ending) (w' : World) : Prop :=
  ∃ c gc g', e = .returned (.pointer (some ⟨c, 0, none⟩)) ∧ w.heap.size ≤ c ∧ (∀ x, gc = some x → w.heap.size ≤ x) ∧ (gc = none ∨ gc ≠ g') ∧ Tl w' c gc L ∧ Tl w' b g' L ∧ Stp w w' b go g'

/-- What holds at each round of Clone. -/
structure CloIn (w : World) (b c h M : Nat) (go g1 : Option Nat) (L : List Int) (k : Nat) (x : World) : Prop where
  c0 : w.heap.size ≤ c
  m0 : w.heap.size ≤ M
  old : ∀ y, g1 = some y → y < M
  row : Whole x h 3 (ints L)
  t : Tl x b g1 L
  s : Stp w x b go g1
  n : ∃ gc, Tl x c gc (L.take k ++ List.replicate (L.length - k) 0) ∧ ∀ y, gc = some y → M ≤ y
  z : M ≤ x.heap.size

theorem fill_length (L : List Int) (k : Nat) (hk : k ≤ L.length) : (L.take k ++ List.replicate (L.length - k) 0).length = L.length := by simp; omega

theorem CloIn.next {w x y : World} {b c h M : Nat} {go g1 gc : Option Nat} {g : Nat} {L : List Int} {k : Nat} (hI : CloIn w b c h M go g1 L k x) (hk : k < L.length) (hgc : Tl x c gc (L.take k ++ List.replicate (L.length - k) 0)) (hgM : ∀ y, gc = some y → M ≤ y)
    (ht2 : Tl y c (some g) (L.take k ++ List.replicate (L.length - k) 0)) (hs2 : Stp x y c gc (some g)) (hb : b < w.heap.size) : CloIn w b c h M go g1 L (k + 1) (y.setCell ⟨g, k, none⟩ (.int .i64 (L.getD k 0))) := by
  have hMg : M ≤ g := by
    rcases hs2.n with e | ⟨_, g', e, hg⟩
    · exact hgM g e.symm
    · have := Option.some.inj e
      have := hI.z
      omega
  have hy := hI.row
  have h1 : Whole y h 3 (ints L) := hs2.k.whole hI.row (hgc.own hI.row (by decide) (by decide))
  have hbc : b ≠ c := by
    have := hI.c0
    omega
  have hg1 : g1 = none ∨ g1 ≠ gc := by
    cases hg1 : g1 with
    | none => exact .inl rfl
    | some z =>
      refine .inr fun e => ?_
      have := hI.old z hg1
      have := hgM z e.symm
      omega
  have ht1 : Tl y b g1 L := hI.t.far hgc hs2.k hbc hg1
  have hg1' : g1 = none ∨ g1 ≠ some g := by
    cases hg1 : g1 with
    | none => exact .inl rfl
    | some z =>
      refine .inr fun e => ?_
      have := hI.old z hg1
      have := Option.some.inj e
      omega
  have hks : Kept (Own c (some g)) y (y.setCell ⟨g, k, none⟩ (.int .i64 (L.getD k 0))) := (Kept.refl _ _).setCell (.inl (.inr rfl)) _
  have hmg : ∀ i, i < w.heap.size → ¬ Own c gc i := fun i hi => by
    rintro (rfl | e)
    · have := hI.c0
      omega
    · have := hgM i e.symm
      have := hI.m0
      omega
  have hbel : Stp w y b go g1 := by
    refine ⟨?_, hI.s.n⟩
    exact ⟨hs2.k.os.trans hI.s.k.os, hs2.k.tape.trans hI.s.k.tape, hs2.k.output.trans hI.s.k.output, Nat.le_trans hI.s.k.size hs2.k.size, fun i hi hn => (hs2.k.block i (Nat.lt_of_lt_of_le hi hI.s.k.size) (hmg i hi)).trans (hI.s.k.block i hi hn)⟩
  refine ⟨hI.c0, hI.m0, hI.old, hks.whole h1 (ht2.own h1 (by decide) (by decide)), ht1.far ht2 hks hbc hg1', ?_, ⟨some g, ?_, fun z e => by have := Option.some.inj e; omega⟩, ?_⟩
  · refine ⟨hbel.k.setCell (.inr ?_) _, hbel.n⟩
    have := hI.m0
    show w.heap.size ≤ g
    omega
  · have h3 := ht2.set_ k (L.getD k 0) (hI.t.val k).1 (hI.t.val k).2
    rwa [take_fill L k hk] at h3
  · have := hI.z
    have := hs2.k.size
    simp [World.setCell]
    omega
end Go.Proofs.Ytibbibpfnpjjdaa

/- The contract of a tally's Clone. -/
namespace Go.Proofs.Ytibbibpfnpjjdaa
open Go.RowKit

theorem kn_len (L : List Int) (h : L.length ≤ 64) : kn (L.length : Int) = L.length := by unfold kn; omega

theorem clo_start {w x y : World} {b c h : Nat} {go g1 : Option Nat} {L : List Int} (hn : L.length ≤ 64) (ht : Tl w b go L) (hc0 : w.heap.size ≤ c) (hc : Tl x c none (List.replicate (kn (L.length : Int)) 0)) (hx : Below w.heap.size w x)
    (_hh : x.heap.size ≤ h) (hrow : Whole y h 3 (ints L)) (ht2 : Tl y b g1 L) (hs : Stp x y b go g1) : CloIn w b c h y.heap.size go g1 L 0 y := by
  have htx := ht.below hx
  have hbc : c ≠ b := by
    have := ht.kinds.2
    omega
  refine ⟨hc0, Nat.le_trans hx.size hs.k.size, fun z e => (ht2.lt.2 z e), hrow, ht2, (Stp.below hx).trans hs, ⟨none, ?_, fun z e => by cases e⟩, Nat.le_refl _⟩
  have h1 := hc.far htx hs.k hbc (.inl rfl)
  rw [kn_len L hn] at h1
  simpa using h1

set_option maxHeartbeats 800000 in
theorem ta_clone (b : Nat) (go : Option Nat) (L : List Int) (w : World) (h : Tl w b go L) : Calls Try.prog 26 #[.pointer (some ⟨b, 0, none⟩)] w (GivesClone w b go L) := by
  have HN := Lib.hid (ta_new (L.length : Int))
  have HA := Lib.hid (fun W g h => ta_all b g L W h)
  have HC := Lib.hid (fun c g L' W h => ta_cells c g L' W h)
  obtain ⟨c0, hlt⟩ := h.kinds
  have hn := h.len
  have H := Lib.hid h
  clear h
  go_enter Try.func26, Try.ntmps26
  go_wp2_with (first
    | (go_at_call 24; refine (HN.out _).mono ?_; rintro e w1 ⟨c, rfl, hc, htc, hb1⟩; have HTc := Lib.hid htc; have HB1 := Lib.hid hb1; clear htc hb1)
    | (go_at_call 37; refine (HA.out _ _ (by exact H.out.below HB1.out)).mono ?_; rintro e w2 ⟨h, rfl, hh, hrow, g1, ht2, hs2⟩; have HI := Lib.hid (clo_start hn H.out hc HTc.out HB1.out hh hrow ht2 hs2); clear hrow ht2 hs2))
  obtain ⟨M, hM⟩ : ∃ M, w2.heap.size = M := ⟨_, rfl⟩
  rw [hM] at HI
  clear hM
  go_loopw [14] (fun i wr => ∃ k : Nat, k ≤ L.length ∧ i = .int .i64 k ∧ CloIn w b c h M go g1 L k wr) (fun i _ => L.length - (intOf i).toNat)
  case atStart => exact ⟨0, Nat.zero_le _, rfl, HI.out⟩
  case round =>
    obtain ⟨k, hk, rfl, hI⟩ := hrel
    by_cases hlt2 : k < L.length
    · obtain ⟨gc, htc, hgM⟩ := hI.n
      have cc := hI.row.cell (ints_at L k hlt2)
      obtain ⟨v, gv⟩ : ∃ v, L.getD k 0 = v := ⟨_, rfl⟩
      rw [gv] at cc
      have GV := Lib.hid gv
      have HK := Lib.hid hI
      have HT := Lib.hid htc
      have HG := Lib.hid hgM
      have hfl := fill_length L k hk
      have HFL := Lib.hid hfl
      clear hI htc hgM gv hfl
      have HCk := Lib.hid (by have := HC.out c gc _ wr HT.out; unfold GivesCells at this; rw [HFL.out] at this; exact this)
      go_wp2_with (first
        | (go_at_call 41; refine (HCk.out).mono ?_; rintro e w3 ⟨g, rfl, ht3, hs3⟩
           have HN3 := Lib.hid (CloIn.next HK.out hlt2 HT.out HG.out ht3 hs3 hlt)
           have hst := run_call_store (P := Try.prog) Try.func57 (by kernel_rfl) (by kernel_rfl) (by kernel_rfl) (by kernel_rfl) (k := .i64) (y := v) (ht3.at_ k (by rw [HFL.out]; exact hlt2)) (ht3.free k)
           clear ht3 hs3)
        | (go_at_call 42; go_in))
      all_goals try (first | go_end0 | skip)
      go_wp2
      go_roundw
      case rel =>
        refine ⟨k + 1, by omega, by go_num, ?_⟩
        have := HN3.out
        rw [GV.out] at this
        exact this
      case measure => simp [intOf]; omega
    · obtain rfl : k = L.length := by omega
      obtain ⟨gc, htc, hgM⟩ := hI.n
      have HK := Lib.hid hI
      have HT := Lib.hid htc
      have HG := Lib.hid hgM
      clear hI htc hgM
      go_wp2
      go_ret
      have hI := HK.out
      refine ⟨c, gc, g1, rfl, hI.c0, fun x e => Nat.le_trans hI.m0 (HG.out x e), ?_, ?_, hI.t, hI.s⟩
      · cases gc with
        | none => exact .inl rfl
        | some x =>
          refine .inr fun e => ?_
          have := HG.out x rfl
          have := hI.old x e.symm
          omega
      · have := HT.out
        simpa using this
end Go.Proofs.Ytibbibpfnpjjdaa

/- The net in memory: bytes on their way in a row of its own, a tally. -/
namespace Go.Proofs.Ytibbibpfnpjjdaa
open Go.RowKit
set_option linter.unusedSimpArgs false
set_option linter.unusedVariables false

/-- No block of bytes. -/
def NoB (w : World) (b : Nat) : Prop := ∀ cs fr, w.heap[b]? ≠ some (.cells cs 5 fr)
/-- A slice of bytes that are L, in a block of bytes. -/
structure Byt (w : World) (e : Sl) (L : List Nat) : Prop where
  len : e.2.1 = L.length
  rds : RdS w w.heap.size 1 e.1 L.length e.2.2 (rowsV f8 L)
  ty : ∀ a, e.1 = some a → 0 < L.length → ∃ cs fr, w.heap[a.block]? = some (.cells cs 5 fr)
theorem Byt.kept {S : Nat → Prop} {w w' : World} {e : Sl} {L : List Nat} (h : Byt w e L) (hk : Kept S w w') (hS : ∀ b, S b → NoB w b) : Byt w' e L := by
  have hne : ∀ a, e.1 = some a → 0 < L.length → ¬ S a.block := fun a ha hn hs => by
    obtain ⟨cs, fr, h1⟩ := h.ty a ha hn
    exact hS _ hs cs fr h1
  refine ⟨h.len, h.rds.kept_ne hk hne, fun a ha hn => ?_⟩
  obtain ⟨cs, fr, h1⟩ := h.ty a ha hn
  exact ⟨cs, fr, (hk.block _ (h.rds.low a ha hn) (hne a ha hn)).trans h1⟩
theorem Byt.below {w w' : World} {e : Sl} {L : List Nat} (h : Byt w e L) (hb : Below w.heap.size w w') : Byt w' e L :=
  h.kept (S := fun _ => False) (Kept.of_below hb) (fun _ e => e.elim)
theorem Byt.of_own {w : World} {B n c : Nat} {A : Option Addr} {L : List Nat} (h : w.ownsRow B 5 1 (.slice A n c) n (rowsV f8 L)) (hn : n = L.length) : Byt w (A, n, c) L := by
  subst hn
  refine ⟨rfl, own_rds h, fun a ha hp => ?_⟩
  rcases h.2 with ⟨_, h2⟩ | ⟨g, cap, cur, h1, hb, hg, _⟩
  · omega
  · injection h1 with a1 _ _
    have ha : A = some a := ha
    rw [ha] at a1
    obtain rfl := Option.some.inj a1
    exact ⟨cur, (0, 0), hg⟩
def Byts (w : World) (es : List Sl) (Ls : List (List Nat)) : Prop := ∀ (i : Nat) (L : List Nat), Ls[i]? = some L → ∃ e, es[i]? = some e ∧ Byt w e L
theorem Byts.kept {S : Nat → Prop} {w w' : World} {es : List Sl} {Ls : List (List Nat)} (h : Byts w es Ls) (hk : Kept S w w') (hS : ∀ b, S b → NoB w b) : Byts w' es Ls := fun i L hL => by
  obtain ⟨e, h1, h2⟩ := h i L hL
  exact ⟨e, h1, h2.kept hk hS⟩
theorem Byts.app {w : World} {es : List Sl} {Ls : List (List Nat)} (h : Byts w es Ls) (hl : es.length = Ls.length) {e : Sl} {L : List Nat} (he : Byt w e L) : Byts w (es ++ [e]) (Ls ++ [L]) := fun i M hM => by
  by_cases hi : i < Ls.length
  · rw [List.getElem?_append_left hi] at hM
    obtain ⟨x, h1, h2⟩ := h i M hM
    exact ⟨x, by rw [List.getElem?_append_left (by omega)]; exact h1, h2⟩
  · have hb := (List.getElem?_eq_some_iff.1 hM).1
    rw [List.length_append, List.length_singleton] at hb
    obtain rfl : i = Ls.length := by omega
    rw [List.getElem?_append_right (Nat.le_refl _), Nat.sub_self] at hM
    obtain rfl : L = M := Option.some.inj hM
    exact ⟨e, by rw [← hl, List.getElem?_append_right (Nat.le_refl _), Nat.sub_self]; rfl, he⟩
theorem Byts.erase {w : World} {es : List Sl} {Ls : List (List Nat)} (h : Byts w es Ls) (k : Nat) : Byts w (es.eraseIdx k) (Ls.eraseIdx k) := fun i L hL => by
  rw [List.getElem?_eraseIdx] at hL ⊢
  split at hL <;> rename_i hlt
  · rw [if_pos hlt]; exact h _ _ hL
  · rw [if_neg hlt]; exact h _ _ hL
theorem Byts.set_ {w : World} {es : List Sl} {Ls : List (List Nat)} (h : Byts w es Ls) (hl : es.length = Ls.length) (k : Nat) {e : Sl} {L : List Nat} (he : Byt w e L) : Byts w (es.set k e) (Ls.set k L) := fun i M hM => by
  rw [List.getElem?_set] at hM ⊢
  by_cases hk : k = i
  · rw [if_pos hk] at hM ⊢
    split at hM
    · rw [if_pos (by omega)]
      exact ⟨e, rfl, Option.some.inj hM ▸ he⟩
    · cases hM
  · rw [if_neg hk] at hM ⊢
    exact h _ _ hM
theorem Byts.nil (w : World) : Byts w [] [] := fun i L hL => by simp at hL
/-- What a call on the net may turn. -/
def NtT (g t : Nat) (go k : Option Nat) (b : Nat) : Prop := b = g ∨ b = t ∨ some b = go ∨ some b = k
def wayB (A : Option Addr) : Option Nat := A.map (·.block)
theorem wayB_own (A : Option Addr) (n c : Nat) : (Value.slice A n c).ownBlock = wayB A := by cases A <;> rfl
structure NtIn (B : Nat) (w : World) (g t : Nat) (go : Option Nat) (A : Option Addr) (c : Nat) (es : List Sl) (s : NtS) : Prop where
  box : Whole w g 58 (ntC A s.1.length c t)
  lo : B ≤ g
  tlo : B ≤ t
  golo : ∀ x, go = some x → B ≤ x
  own : w.ownsRow B 32 1 (.slice A s.1.length c) s.1.length (rowsV slc es)
  tal : Tl w t go s.2
  each : Byts w es s.1
theorem NtIn.row {B : Nat} {w : World} {g t : Nat} {go : Option Nat} {A : Option Addr} {c : Nat} {es : List Sl} {s : NtS} (h : NtIn B w g t go A c es s) : RdS w w.heap.size 1 A s.1.length c (rowsV slc es) := own_rds h.own
theorem NtIn.eslen {B : Nat} {w : World} {g t : Nat} {go : Option Nat} {A : Option Addr} {c : Nat} {es : List Sl} {s : NtS} (h : NtIn B w g t go A c es s) : es.length = s.1.length := h.row.rlen slc_len (by decide)
theorem tl_types {w : World} {t : Nat} {go : Option Nat} {L : List Int} (h : Tl w t go L) : (∃ cs, Whole w t 81 cs) ∧ ∀ x, go = some x → ∃ cs, Whole w x 84 cs := by
  have := h.mem
  cases go with
  | none => exact ⟨⟨_, this.1⟩, fun x hx => (by cases hx)⟩
  | some x => exact ⟨⟨_, this.1⟩, fun y hy => ⟨_, (Option.some.inj hy) ▸ this.2⟩⟩
theorem nob_whole {w : World} {b : Nat} {T : TypeId} {cs : List Value} (h : Whole w b T cs) (hT : T ≠ 5) : NoB w b := fun cs' fr e => by
  unfold Whole at h
  rw [h] at e
  injection e with e
  injection e with _ e _
  exact hT e
theorem nob_own {w : World} {B n c : Nat} {T : TypeId} {A : Option Addr} {xs : List Value} (h : w.ownsRow B T 1 (.slice A n c) n xs) (hT : T ≠ 5) {b : Nat} (hb : some b = wayB A) : NoB w b := fun cs' fr e => by
  rw [← wayB_own A n c] at hb
  rcases h.2 with ⟨h1, _⟩ | ⟨g, cap, cur, h1, _, hg, _⟩
  · rw [h1] at hb; cases hb
  · rw [h1] at hb
    obtain rfl : b = g := Option.some.inj hb
    rw [hg] at e
    injection e with e
    injection e with _ e _
    exact hT e
theorem NtIn.nob {B : Nat} {w : World} {g t : Nat} {go : Option Nat} {A : Option Addr} {c : Nat} {es : List Sl} {s : NtS} (h : NtIn B w g t go A c es s) : ∀ b, NtT g t go (wayB A) b → NoB w b := by
  obtain ⟨⟨c1, h1⟩, h2⟩ := tl_types h.tal
  rintro b (rfl | rfl | hb | hb)
  · exact nob_whole h.box (by decide)
  · exact nob_whole h1 (by decide)
  · obtain ⟨c2, h3⟩ := h2 b hb.symm
    exact nob_whole h3 (by decide)
  · exact nob_own h.own (by decide) hb
theorem NtIn.lt {B : Nat} {w : World} {g t : Nat} {go : Option Nat} {A : Option Addr} {c : Nat} {es : List Sl} {s : NtS} (h : NtIn B w g t go A c es s) : ∀ b, NtT g t go (wayB A) b → B ≤ b ∧ b < w.heap.size := by
  rintro b (rfl | rfl | hb | hb)
  · exact ⟨h.lo, h.box.lt⟩
  · exact ⟨h.tlo, h.tal.lt.1⟩
  · exact ⟨h.golo b hb.symm, h.tal.lt.2 b hb.symm⟩
  · exact h.own.lt b ((wayB_own _ _ _).trans hb.symm)
theorem NtIn.keep {S : Nat → Prop} {B : Nat} {w w' : World} {g t : Nat} {go : Option Nat} {A : Option Addr} {c : Nat} {es : List Sl} {s : NtS} (h : NtIn B w g t go A c es s) (hk : Kept S w w') (h1 : ∀ b, NtT g t go (wayB A) b → ¬ S b) (h2 : ∀ b, S b → NoB w b) : NtIn B w' g t go A c es s := by
  refine ⟨hk.whole h.box (h1 _ (.inl rfl)), h.lo, h.tlo, h.golo, own_kept h.own hk (fun b hb => h1 b (.inr (.inr (.inr (hb.symm.trans (wayB_own _ _ _)))))), ?_, h.each.kept hk h2⟩
  refine ⟨h.tal.len, h.tal.bd, ?_⟩
  have hm := h.tal.mem
  cases go with
  | none => exact ⟨hk.whole hm.1 (h1 _ (.inr (.inl rfl))), hm.2⟩
  | some x => exact ⟨hk.whole hm.1 (h1 _ (.inr (.inl rfl))), hk.whole hm.2 (h1 _ (.inr (.inr (.inl rfl))))⟩
theorem NtIn.below {B : Nat} {w w' : World} {g t : Nat} {go : Option Nat} {A : Option Addr} {c : Nat} {es : List Sl} {s : NtS} (h : NtIn B w g t go A c es s) (hb : Below w.heap.size w w') : NtIn B w' g t go A c es s :=
  h.keep (S := fun _ => False) (Kept.of_below hb) (fun _ _ e => e) (fun _ e => e.elim)
/-- A step of the net: what it may turn, and what it may turn behind it. -/
structure NtGo (w w' : World) (S S' : Nat → Prop) : Prop where
  k : Kept S w w'
  n : ∀ b, S' b → S b ∨ w.heap.size ≤ b
theorem NtGo.trans {w w1 w2 : World} {S S1 S2 : Nat → Prop} (h : NtGo w w1 S S1) (k : NtGo w1 w2 S1 S2) : NtGo w w2 S S2 := by
  have hs := h.k.size
  refine ⟨⟨k.k.os.trans h.k.os, k.k.tape.trans h.k.tape, k.k.output.trans h.k.output, Nat.le_trans hs k.k.size, fun i hi hn => ?_⟩, fun b hb => ?_⟩
  · refine (k.k.block i (by omega) (fun hs1 => ?_)).trans (h.k.block i hi hn)
    rcases h.n i hs1 with q | q
    · exact hn q
    · omega
  · rcases k.n b hb with q | q
    · exact h.n b q
    · exact .inr (by omega)
theorem NtGo.below {w w' : World} {S : Nat → Prop} (h : Below w.heap.size w w') : NtGo w w' S S := ⟨Kept.of_below h, fun b hb => .inl hb⟩
theorem NtIn.far {B : Nat} {w w' : World} {g t : Nat} {go : Option Nat} {A : Option Addr} {c : Nat} {es : List Sl} {s : NtS} {S' : Nat → Prop} (h : NtIn B w g t go A c es s) (hk : NtGo w w' (NtT g t go (wayB A)) S') (hB : B ≤ w.heap.size) : Below B w w' :=
  hk.k.below hB (fun i hi e => by have := (h.lt i e).1; omega)
theorem own_whole {w : World} {B n c : Nat} {T : TypeId} {A : Option Addr} {xs : List Value} (h : w.ownsRow B T 1 (.slice A n c) n xs) {b : Nat} (hb : some b = wayB A) : ∃ cs, Whole w b T cs := by
  rw [← wayB_own A n c] at hb
  rcases h.2 with ⟨h1, _⟩ | ⟨g, cap, cur, h1, _, hg, _⟩
  · rw [h1] at hb; cases hb
  · rw [h1] at hb
    obtain rfl : b = g := Option.some.inj hb
    exact ⟨cur.toList, by unfold Whole; simpa using hg⟩
theorem tl_nob {w : World} {t : Nat} {go : Option Nat} {L : List Int} (h : Tl w t go L) : ∀ b, Own t go b → NoB w b := by
  obtain ⟨⟨c1, h1⟩, h2⟩ := tl_types h
  rintro b (rfl | hb)
  · exact nob_whole h1 (by decide)
  · obtain ⟨c2, h3⟩ := h2 b hb.symm
    exact nob_whole h3 (by decide)
/-- The tally's step. -/
theorem NtIn.tally {B : Nat} {w w' : World} {g t : Nat} {go go' : Option Nat} {A : Option Addr} {c : Nat} {es : List Sl} {s : NtS} {T : List Int} (h : NtIn B w g t go A c es s) (hT : Tl w' t go' T) (hs : Stp w w' t go go') : NtIn B w' g t go' A c es (s.1, T) ∧ NtGo w w' (NtT g t go (wayB A)) (NtT g t go' (wayB A)) := by
  have hB := h.lo
  have hgl := h.box.lt
  refine ⟨⟨hs.k.whole h.box (h.tal.own h.box (by decide) (by decide)), h.lo, h.tlo, fun x hx => ?_, own_kept h.own hs.k (fun b hb => ?_), hT, h.each.kept hs.k (tl_nob h.tal)⟩, ⟨hs.k.wider (fun i _ e => ?_), ?_⟩⟩
  · rcases hs.n with q | ⟨_, y, q, hy⟩
    · exact h.golo x (q ▸ hx)
    · rw [q] at hx
      obtain rfl := Option.some.inj hx
      omega
  · obtain ⟨cs, h1⟩ := own_whole h.own (hb.symm.trans (wayB_own _ _ _))
    exact h.tal.own h1 (by decide) (by decide)
  · rcases e with e | e
    · exact .inr (.inl e)
    · exact .inr (.inr (.inl e))
  · rintro b (e | e | e | e)
    · exact .inl (.inl e)
    · exact .inl (.inr (.inl e))
    · rcases hs.n with q | ⟨_, y, q, hy⟩
      · exact .inl (.inr (.inr (.inl (q ▸ e))))
      · rw [q] at e
        obtain rfl := Option.some.inj e
        exact .inr hy
    · exact .inl (.inr (.inr (.inr e)))
/-- The row's step. -/
theorem NtIn.way {B : Nat} {w w2 : World} {g t : Nat} {go : Option Nat} {A A' : Option Addr} {c c' : Nat} {es es' : List Sl} {s : NtS} {L' : List (List Nat)} (h : NtIn B w g t go A c es s) (hk : Kept (fun b => b = g ∨ some b = wayB A) w w2) (hb : Whole w2 g 58 (ntC A' L'.length c' t))
    (ho : w2.ownsRow B 32 1 (.slice A' L'.length c') L'.length (rowsV slc es')) (he : Byts w2 es' L') (hA : wayB A' = wayB A ∨ ∃ b, wayB A' = some b ∧ w.heap.size ≤ b) : NtIn B w2 g t go A' c' es' (L', s.2) ∧ NtGo w w2 (NtT g t go (wayB A)) (NtT g t go (wayB A')) := by
  have hf : ∀ b T cs, Whole w b T cs → T ≠ 58 → T ≠ 32 → ¬ (b = g ∨ some b = wayB A) := by
    rintro b T cs h1 h2 h3 (e | e)
    · exact h1.ne_ h.box h2 e
    · obtain ⟨cs', h4⟩ := own_whole h.own e
      exact h1.ne_ h4 h3 rfl
  refine ⟨⟨hb, h.lo, h.tlo, h.golo, ho, ⟨h.tal.len, h.tal.bd, ?_⟩, he⟩, ⟨hk.wider (fun i _ e => ?_), ?_⟩⟩
  · have hm := h.tal.mem
    cases go with
    | none => exact ⟨hk.whole hm.1 (hf _ _ _ hm.1 (by decide) (by decide)), hm.2⟩
    | some x => exact ⟨hk.whole hm.1 (hf _ _ _ hm.1 (by decide) (by decide)), hk.whole hm.2 (hf _ _ _ hm.2 (by decide) (by decide))⟩
  · rcases e with e | e
    · exact .inl e
    · exact .inr (.inr (.inr e))
  · rintro b (e | e | e | e)
    · exact .inl (.inl e)
    · exact .inl (.inr (.inl e))
    · exact .inl (.inr (.inr (.inl e)))
    · rcases hA with q | ⟨y, q, hy⟩
      · exact .inl (.inr (.inr (.inr (q ▸ e))))
      · rw [q] at e
        obtain rfl := Option.some.inj e
        exact .inr hy
/-- What the row's step turns is no block of bytes. -/
theorem NtIn.nobW {B : Nat} {w : World} {g t : Nat} {go : Option Nat} {A : Option Addr} {c : Nat} {es : List Sl} {s : NtS} (h : NtIn B w g t go A c es s) : ∀ b, (b = g ∨ some b = wayB A) → NoB w b := fun b hb => h.nob b (by
  rcases hb with e | e
  · exact .inl e
  · exact .inr (.inr (.inr e)))
/-- An append of one to the row. -/
theorem way_app {B : Nat} {W : World} {A : Option Addr} {n c : Nat} {es : List Sl} (ho : W.ownsRow B 32 1 (.slice A n c) n (rowsV slc es)) (hn : n ≤ 100000) (hB : B ≤ W.heap.size) (ty : TypeId) (e : Sl) (a1 : Addr) (hc : W.cell? a1 = some (.slice e.1 e.2.1 e.2.2)) :
    ∃ A' c' w', (Builtin.append_ #[27, 27] ty #[.slice A n c, .slice (some a1) 1 1]).run Try.prog W = .ok (.slice A' (n + 1) c') w' ∧ w'.ownsRow B 32 1 (.slice A' (n + 1) c') (n + 1) (rowsV slc (es ++ [e])) ∧ Kept (fun b => some b = wayB A) W w' ∧ (wayB A' = wayB A ∨ ∃ b, wayB A' = some b ∧ W.heap.size ≤ b) := by
  obtain ⟨i0, hi, hz0, hz1, hz2⟩ := info_parts_ info_sl
  have ha0 : a1.add 0 = a1 := by
    unfold Addr.add; split <;> simp_all
  have hnews : ∀ j u, (rowsV slc [e])[j]? = some u → W.cell? (a1.add j) = some u := fun j u hu => by
    cases j with
    | zero =>
      rw [ha0, hc]
      exact hu
    | succ j => simp [rowsV, slc] at hu
  obtain ⟨v', w', hrun, hown', hg, hnn, hbk⟩ := run_append_own_at (P := Try.prog) W B 27 ty 32 i0 _ 1 24 Try.underlying27 hi hz0 hz1 hz2 rfl (by decide) _ _ _ ho a1 1 1 (rowsV slc [e]) rfl hnews (slc_all _) (by unfold maxLen; omega) (by omega) hB
  rw [← rowsV_app] at hown'
  obtain ⟨A', c', rfl, _⟩ := RdS.of_own hown'
  refine ⟨A', c', w', hrun, hown', ⟨hg.os, hg.tape, hg.output, hg.size, fun i hi hne => hg.block i hi (by rw [wayB_own]; exact hne)⟩, ?_⟩
  rw [wayB_own, wayB_own] at hbk
  rcases hbk with hbk | hbk
  · exact .inl hbk
  · exact .inr ⟨_, hbk, Nat.le_refl _⟩
theorem addL_bump {T : List Int} {k : Nat} (hk : k < T.length) (h : T.getD k 0 < 1099511627776) : addL T k 1 = bump T k ∧ addE T k 1 = 0 := by
  have h1 : addE T k 1 = 0 := addE_ok ⟨by omega, by omega⟩ (by decide) (by rw [Int.toNat_natCast]; omega)
  exact ⟨by rw [addL_ok h1, Int.toNat_natCast]; rfl, h1⟩
end Go.Proofs.Ytibbibpfnpjjdaa

/- slices.Delete of one row of bytes. -/
namespace Go.Proofs.Ytibbibpfnpjjdaa
open Go.RowKit
set_option linter.unusedSimpArgs false
set_option linter.unusedVariables false

theorem nilsl_zero (w : World) : (zeroValue 32).run Try.prog w = .ok (.slice none 0 0) w := by
  obtain ⟨i, h1, h2, _⟩ := info_parts_ info_sl
  simp [zeroValue, typeInfo, h1, h2]
/-- What the row holds behind it. -/
theorem del_list (xs junk : List Value) (i : Nat) (z : Value) (hi : i < xs.length) : putR (putR (xs ++ junk) i (xs.drop (i + 1))) (xs.length - 1) [z] = xs.eraseIdx i ++ ([z] ++ junk) := by
  have h1 : putR (xs ++ junk) i (xs.drop (i + 1)) = xs.eraseIdx i ++ (xs ++ junk).drop (xs.length - 1) := by
    unfold putR
    rw [List.take_append_of_le_length (by omega), List.length_drop, show i + (xs.length - (i + 1)) = xs.length - 1 by omega, ← List.append_assoc, List.eraseIdx_eq_take_drop_succ]
  have hl : (xs.eraseIdx i).length = xs.length - 1 := by rw [List.length_eraseIdx, if_pos hi]
  rw [h1]
  unfold putR
  rw [← hl, List.take_left', List.drop_append, List.drop_drop, hl]
  · have e1 : (xs.eraseIdx i).drop (xs.length - 1 + [z].length) = [] := List.drop_eq_nil_of_le (by rw [hl]; simp)
    rw [e1, List.nil_append, List.length_singleton, show xs.length - 1 + (xs.length - 1 + 1 - (xs.length - 1)) = xs.length by omega, List.drop_left']
    rfl
  · rfl
set_option maxHeartbeats 4000000 in
set_option maxRecDepth 1000000 in
theorem del_row (g c i : Nat) (xs junk : List Value) (w : World) (h : Whole w g 32 (xs ++ junk)) (hc : (xs ++ junk).length = c) (hm : c ≤ maxLen) (h1 : ∀ u ∈ xs, u.oneCell' = true) (hi : i < xs.length) :
    Calls Try.prog 48 #[.slice (some ⟨g, 0, none⟩) xs.length c, .int .i64 (i : Int), .int .i64 ((i : Int) + 1)] w fun e w' => e = .returned (.slice (some ⟨g, 0, none⟩) (xs.length - 1) c) ∧ Whole w' g 32 (xs.eraseIdx i ++ ([.slice none 0 0] ++ junk)) ∧ Kept (fun b => b = g) w w' := by
  obtain ⟨i0, hi0, hz0, hz1, hz2⟩ := info_parts_ info_sl
  have hcl : xs.length + junk.length = c := by rw [← hc, List.length_append]
  unfold maxLen at hm
  obtain ⟨j, gj⟩ : ∃ j, i + 1 = j := ⟨_, rfl⟩
  have gjI : (i : Int) + 1 = (j : Int) := by omega
  obtain ⟨n, gn⟩ : ∃ n, xs.length = n := ⟨_, rfl⟩
  obtain ⟨news, hnews⟩ : ∃ news, news = xs.drop j := ⟨_, rfl⟩
  have hlen : news.length = n - j := by rw [hnews]; simp [gn]
  have hget : ∀ t u, news[t]? = some u → w.cell? ⟨g, j + t, none⟩ = some u := by
    intro t u hu
    rw [hnews, List.getElem?_drop] at hu
    refine h.cell (i := j + t) ?_
    rw [List.getElem?_append_left (List.getElem?_eq_some_iff.1 hu).1]
    exact hu
  obtain ⟨A, hA, hsrc⟩ : ∃ A : Addr, (if c = j then some (⟨g, 0, none⟩ : Addr) else some ⟨g, j, none⟩) = some A ∧ RowKit.Hid (∀ t u, news[t]? = some u → w.drew.cell? (A.add t) = some u) := by
    by_cases hcj : c = j
    · refine ⟨⟨g, 0, none⟩, by simp [hcj], fun t u hu => ?_⟩
      have h0 : news.length = 0 := by rw [hlen]; omega
      rw [List.length_eq_zero_iff.1 h0] at hu
      simp at hu
    · refine ⟨⟨g, j, none⟩, by simp [hcj], fun t u hu => ?_⟩
      rw [Addr.add_lit]
      exact hget t u hu
  have s1 : RowKit.Hid (news.length = (n - j) * 1) := by rw [Nat.mul_one]; exact hlen
  have s2 : RowKit.Hid (∀ u ∈ news, u.oneCell' = true) := fun u hu => h1 u (by rw [hnews] at hu; exact List.mem_of_mem_drop hu)
  have hth : w.drew.there g (i * 1) news.length := (Whole.drew h).there_ (i * 1) news.length (by rw [hc, hlen]; omega)
  have s3 : RowKit.Hid (∀ t, t < news.length → (w.drew.cell? ⟨g, 0 + i * 1 + t, none⟩).isSome = true ∧ w.drew.frozen? ⟨g, 0 + i * 1 + t, none⟩ = false) := Lib.hid (fun t ht => by rw [Nat.zero_add]; exact hth t ht)
  obtain ⟨W1, hW1⟩ : ∃ W1, W1 = w.drew.setCells g (0 + i * 1) news := ⟨_, rfl⟩
  have hW1r : Whole W1 g 32 (putR (xs ++ junk) i (xs.drop (i + 1))) := by
    rw [hW1, Nat.zero_add, Nat.mul_one, gj, ← hnews]
    exact (Whole.drew h).cells_ news i w.drew _ (by rw [hc, hlen]; omega)
  have hk1 : Kept (fun b => b = g) w W1 := by
    rw [hW1]
    exact (Kept.refl _ _).drew.trans (kept_setCells (S := fun b => b = g) rfl _ _)
  have hpl : (putR (xs ++ junk) i (xs.drop (i + 1))).length = c := by rw [putR_length _ _ _ (by simp; omega), hc]
  have hcl2 : ∀ ty, (Builtin.clear_ #[27] ty #[.slice (some ⟨g, i + (n - j), none⟩) (n - (i + (n - j))) (c - (i + (n - j)))]).run Try.prog W1 = .ok (.tuple #[]) (W1.setCells g (i + (n - j)) (List.replicate (n - (i + (n - j))) (.slice none 0 0))) :=
    fun ty => Lib.run_clear_slice W1 _ _ ty _ Try.underlying27 nilsl_zero rfl rfl g (i + (n - j)) _ _ (by omega) (fun t ht => ((hW1r.there_ (i + (n - j)) (n - (i + (n - j))) (by rw [hpl]; omega)) t ht).1) (fun t ht => ((hW1r.there_ (i + (n - j)) (n - (i + (n - j))) (by rw [hpl]; omega)) t ht).2)
  have hend : Whole (W1.setCells g (i + (n - j)) (List.replicate (n - (i + (n - j))) (.slice none 0 0))) g 32 (xs.eraseIdx i ++ ([.slice none 0 0] ++ junk)) := by
    have h9 := hW1r.cells_ [.slice none 0 0] (i + (n - j)) W1 _ (by rw [hpl]; simp; omega)
    rw [show n - (i + (n - j)) = 1 by omega]
    rw [show i + (n - j) = xs.length - 1 by omega] at h9 ⊢
    rw [del_list xs junk i _ hi] at h9
    exact h9
  have HE := Lib.hid hend
  have HK : RowKit.Hid (Kept (fun b => b = g) w (W1.setCells g (i + (n - j)) (List.replicate (n - (i + (n - j))) (.slice none 0 0)))) := Lib.hid (hk1.trans (kept_setCells (S := fun b => b = g) rfl _ _))
  have hW : RowKit.Hid (W1 = w.drew.setCells g (0 + i * 1) news) := hW1
  have hic : i ≤ c := by omega
  have hjc : j ≤ c := by omega
  have hij : i ≤ j := by omega
  have heq : ¬ i = j := by omega
  have hjn : j ≤ n := by omega
  have hnc : n ≤ c := by omega
  have HN : RowKit.Hid (n - 1 = i + (n - j)) := Lib.hid (by omega)
  have mixed : Try.prog.follows Departure.mixedOrders = true := by kernel_rfl
  rw [gjI, gn]
  clear hW1 hW1r hk1 hpl hend hget hnews hlen hth h hc h1 hi hcl gn gj gjI
  go_enter Try.func48, Try.ntmps48
  go_wp2_with fail
  go_region_law_o (refine step_append_room rfl (.tmp 22) (.tmp 25) 27 rfl 32 i0 1 Try.underlying27 hi0 hz1 g 0 i c (by simp [Act.eval, Act.put]) A (n - j) (c - j) news (by simp [Act.eval, Act.put]) s1.out hsrc.out s2.out (by omega) s3.out ?_; rw [← hW.out])
  go_wp2
  go_ret
  refine ⟨by rw [HN.out]; try rfl, HE.out, HK.out⟩
end Go.Proofs.Ytibbibpfnpjjdaa
