/- The contracts of a tally's calls: cells, has, Get, Add. -/
import Derived.Test.YtgbkloilodgjfaaTaB
import Derived.WalkSpells
import Derived.WalkLawsBesides
namespace Go.Proofs.Ytgbkloilodgjfaa
open Go.RowKit

def GivesCells (w : World) (b : Nat) (go : Option Nat) (L : List Int) (e : Ending) (w' : World) : Prop :=
  ∃ g, e = .returned (.slice (some ⟨g, 0, none⟩) L.length L.length) ∧ Tl w' b (some g) L ∧ Stp w w' b go (some g)

theorem ta_cells_first (b : Nat) (L : List Int) (w : World) (h : Tl w b none L) : Calls Try.prog 43 #[.pointer (some ⟨b, 0, none⟩)] w (GivesCells w b none L) := by
  have hmf : ∀ (fn : Fn) (first cap : Array Value) (w : World), (Instr.makeFunc fn first cap).run Try.prog w = .ok (.func fn first cap) w := fun _ _ _ _ => rfl
  obtain ⟨hn, hbd, hb, hz⟩ := h
  have hb1 : Whole (w.alloc (.cells #[.pointer (some ⟨b, 0, none⟩)] 24)) b 72 (tcells L.length 0 0 (.slice none 0 0)) := hb.alloc _
  have hp1 := Whole.new_ w 24 [.pointer (some ⟨b, 0, none⟩)]
  have hlt := hb.lt
  have HB := Lib.hid hb1
  have HP := Lib.hid hp1
  have HZ := Lib.hid hz
  have HD := Lib.hid hbd
  clear hb hb1 hp1 hz hbd
  go_enter Try.func43, Try.ntmps43
  go_wp2_with (go_at_call 54; refine (ta_do_first w.heap.size b L.length hn _ (by exact HP.out) (by exact HB.out)).mono ?_; rintro e w2 ⟨rfl, g, hg, hb2, hg2, hk⟩; have c4 := hb2.cell (i := 4) rfl; have p2 := (hk.whole HP.out (by omega)).cell (i := 0) rfl)
  go_ret
  simp at hg
  have hk' : Kept (Own b none) w w2 := ((Kept.of_below ((Below.refl _ _).alloc (Nat.le_refl _) (.cells #[.pointer (some ⟨b, 0, none⟩)] 24))).trans (hk.wider (T := Own b none) (fun i _ hi => .inl hi)))
  refine ⟨g, rfl, ⟨hn, HD.out, hb2, ?_⟩, hk', .inr ⟨rfl, g, rfl, by omega⟩⟩
  rw [HZ.out, List.map_replicate]
  simpa using hg2

theorem ta_cells_again (b g : Nat) (L : List Int) (w : World) (h : Tl w b (some g) L) : Calls Try.prog 43 #[.pointer (some ⟨b, 0, none⟩)] w (GivesCells w b (some g) L) := by
  have hmf : ∀ (fn : Fn) (first cap : Array Value) (w : World), (Instr.makeFunc fn first cap).run Try.prog w = .ok (.func fn first cap) w := fun _ _ _ _ => rfl
  obtain ⟨hn, hbd, hb, hg⟩ := h
  have hlt := hb.lt
  have b1 := (hb.alloc (.cells #[.pointer (some ⟨b, 0, none⟩)] 24)).cell (i := 1) rfl
  have c4 := hb.cell (i := 4) rfl
  have HB := Lib.hid hb
  have HG := Lib.hid hg
  have HD := Lib.hid hbd
  clear hb hg hbd
  go_enter Try.func43, Try.ntmps43
  go_wp2_with (go_at_call 54; refine (ta_do_done b _ _ b1).mono ?_; rintro e w2 ⟨rfl, rfl⟩)
  go_ret
  exact ⟨g, rfl, ⟨hn, HD.out, HB.out.alloc _, HG.out.alloc _⟩, Stp.below ((Below.refl _ _).alloc (Nat.le_refl _) _)⟩

theorem ta_cells (b : Nat) (go : Option Nat) (L : List Int) (w : World) (h : Tl w b go L) : Calls Try.prog 43 #[.pointer (some ⟨b, 0, none⟩)] w (GivesCells w b go L) := by
  cases go with
  | none => exact ta_cells_first b L w h
  | some g => exact ta_cells_again b g L w h

theorem Tl.kinds {w : World} {b : Nat} {go : Option Nat} {L : List Int} (h : Tl w b go L) : w.cell? ⟨b, 0, none⟩ = some (.int .i64 (L.length : Int)) ∧ b < w.heap.size := by
  have := h.mem
  cases go with
  | none => exact ⟨this.1.cell rfl, this.1.lt⟩
  | some g => exact ⟨this.1.cell rfl, this.1.lt⟩

theorem ta_has (b : Nat) (go : Option Nat) (L : List Int) (k : Int) (w : World) (h : Tl w b go L) :
    Calls Try.prog 45 #[.pointer (some ⟨b, 0, none⟩), .int .i64 k] w fun e w' => e = .returned (.bool (decide (0 ≤ k ∧ k < L.length))) ∧ w = w' := by
  obtain ⟨c0, hlt⟩ := h.kinds
  clear h
  by_cases h1 : 0 ≤ k
  · by_cases h2 : k < L.length
    · have hd : decide (0 ≤ k ∧ k < (L.length : Int)) = true := by simp [h1, h2]
      rw [hd]
      clear hd
      go_enter Try.func45, Try.ntmps45
      go_wp2
      go_ret
      exact ⟨rfl, rfl⟩
    · have hd : decide (0 ≤ k ∧ k < (L.length : Int)) = false := by simp [h2]
      rw [hd]
      clear hd
      go_enter Try.func45, Try.ntmps45
      go_wp2
      go_ret
      exact ⟨rfl, rfl⟩
  · have hd : decide (0 ≤ k ∧ k < (L.length : Int)) = false := by simp [h1]
    rw [hd]
    clear hd
    go_enter Try.func45, Try.ntmps45
    go_wp2
    go_ret
    exact ⟨rfl, rfl⟩

theorem ret_i {a b : Int} (h : a = b) : Ending.returned (.int .i64 a) = .returned (.int .i64 b) := by rw [h]

/-- The number of a kind. -/
def getL (L : List Int) (k : Int) : Int := if 0 ≤ k ∧ k < L.length then L.getD k.toNat 0 else 0

theorem Tl.at_ {w : World} {b g : Nat} {L : List Int} (h : Tl w b (some g) L) (k : Nat) (hk : k < L.length) : w.cell? ⟨g, k, none⟩ = some (.int .i64 (L.getD k 0)) := by
  refine h.mem.2.cell ?_
  simp [hk]
theorem Tl.free {w : World} {b g : Nat} {L : List Int} (h : Tl w b (some g) L) (k : Nat) : w.frozen? ⟨g, k, none⟩ = false := h.mem.2.free k

def TaGet (w : World) (b : Nat) (go : Option Nat) (L : List Int) (k : Int) (e : Ending) (w' : World) : Prop :=
  e = .returned (.int .i64 (getL L k)) ∧ ∃ g', Tl w' b g' L ∧ Stp w w' b go g'

theorem ta_get (b : Nat) (go : Option Nat) (L : List Int) (k : Int) (w : World) (h : Tl w b go L) : Calls Try.prog 18 #[.pointer (some ⟨b, 0, none⟩), .int .i64 k] w (TaGet w b go L k) := by
  have HH := Lib.hid (ta_has b go L k w h)
  have HC := Lib.hid (ta_cells b go L w h)
  have hnot : ∀ (x : Bool) (w : World), (Op.unary .not (.bool x)).run Try.prog w = .ok (.bool (!x)) w := fun _ _ => rfl
  have H := Lib.hid h
  have hn := h.len
  clear h
  by_cases hk : 0 ≤ k ∧ k < L.length
  · obtain ⟨n, rfl⟩ := Int.eq_ofNat_of_zero_le hk.1
    have hk2 : n < L.length := by omega
    have hd : decide (0 ≤ (n : Int) ∧ (n : Int) < (L.length : Int)) = true := by simp [hk2]
    rw [hd] at HH
    have hv : getL L n = L.getD n 0 := by simp [getL, hk2]
    obtain ⟨v, gv⟩ : ∃ v, L.getD n 0 = v := ⟨_, rfl⟩
    have GV := Lib.hid gv
    rw [gv] at hv
    have HV := Lib.hid hv
    clear hd hv hk gv
    go_enter Try.func18, Try.ntmps18
    go_wp2_with (first
      | (go_at_call 45; refine (HH.out).mono ?_; rintro e w' ⟨rfl, rfl⟩)
      | (go_at_call 43; refine (HC.out).mono ?_; rintro e w2 ⟨g, rfl, ht2, hs2⟩; have hl := run_call_load (P := Try.prog) Try.func57 (by kernel_rfl) (by kernel_rfl) (by kernel_rfl) .i64 (by kernel_rfl) (by have := ht2.at_ n hk2; rw [GV.out] at this; exact this); have T2 := Lib.hid ht2; clear ht2)
      | (go_at_call 46; go_in))
    go_ret
    exact ⟨ret_i HV.out.symm, some g, T2.out, hs2⟩
  · have hd : decide (0 ≤ k ∧ k < (L.length : Int)) = false := by simpa using hk
    rw [hd] at HH
    have hv : getL L k = 0 := by simp only [getL, if_neg hk]
    have HV := Lib.hid hv
    clear hd hv hk
    go_enter Try.func18, Try.ntmps18
    go_wp2_with (first
      | (go_at_call 45; refine (HH.out).mono ?_; rintro e w' ⟨rfl, rfl⟩))
    go_ret
    exact ⟨ret_i HV.out.symm, go, H.out, Stp.refl _ _ _⟩
end Go.Proofs.Ytgbkloilodgjfaa
