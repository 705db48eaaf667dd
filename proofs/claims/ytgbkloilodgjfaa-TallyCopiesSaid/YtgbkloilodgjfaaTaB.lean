/- The closure that lays a tally's numbers. -/
import Derived.Test.YtgbkloilodgjfaaTaA
import Derived.OrdersHeld
namespace Go.Proofs.Ytgbkloilodgjfaa
open Go.RowKit

theorem made_one (z : Value) (n : Nat) : madeCells #[z] n = Array.replicate n z := by
  apply Array.ext'
  rw [toList_madeCells_one, Array.toList_replicate]

theorem ta_make (ks : Nat) (hk : ks ≤ 64) (W : World) : (Instr.makeSlice 70 (.int .i64 (ks : Int)) (.int .i64 (ks : Int))).run Try.prog W = .ok (.slice (some ⟨W.heap.size, 0, none⟩) ks ks) (W.alloc (.cells (Array.replicate ks (Value.int .i64 0)) 75)) := by
  obtain ⟨i0, hi, hz0, hz1, hz2⟩ := info_parts info_a64
  have := run_make (P := Try.prog) W 70 75 i0 (.agg #[.int .i64 0]) Try.underlying70 hi hz0 .i64 .i64 (ks : Int) (ks : Int) (by omega) (by omega) (by rw [hz2]; omega) (by omega)
  rw [hz1] at this
  simp only [Int.toNat_natCast, Nat.mul_one, Value.cells, made_one] at this
  exact this

set_option maxRecDepth 100000 in
theorem ta_closure (pb b ks : Nat) (hk : ks ≤ 64) (w : World) (hp : Whole w pb 24 [.pointer (some ⟨b, 0, none⟩)]) (hb : Whole w b 72 (tcells ks 0 1 (.slice none 0 0))) :
    Calls Try.prog 55 #[.pointer (some ⟨pb, 0, none⟩)] w fun e w' => e = .returned (.tuple #[]) ∧
      ∃ g, w.heap.size ≤ g ∧ Whole w' b 72 (tcells ks 0 1 (.slice (some ⟨g, 0, none⟩) ks ks)) ∧ Whole w' g 75 (List.replicate ks (.int .i64 0)) ∧ Kept (· = b) w w' := by
  have hmk := ta_make ks hk
  have c0 : w.cell? ⟨b, 0, none⟩ = some (.int .i64 (ks : Int)) := hb.cell rfl
  have c4 : w.cell? ⟨b, 4, none⟩ = some (.slice none 0 0) := hb.cell rfl
  have f4 : w.frozen? ⟨b, 4, none⟩ = false := hb.free 4
  have p0 : w.cell? ⟨pb, 0, none⟩ = some (.pointer (some ⟨b, 0, none⟩)) := hp.cell rfl
  have hlt := hb.lt
  have hlp := hp.lt
  have HB := Lib.hid hb
  have HP := Lib.hid hp
  clear hb hp
  go_enter Try.func55, Try.ntmps55
  go_wp2
  go_region
  all_goals go_end0
  all_goals exact ⟨rfl, w.heap.size, Nat.le_refl _, ((HB.out.set_ 4 _).alloc _).drew, by have h := Whole.new_ (w.setCell ⟨b, 4, none⟩ (.slice (some ⟨w.heap.size, 0, none⟩) ks ks)) 75 (List.replicate ks (.int .i64 0)); simp at h; exact h.drew, (((Kept.refl (· = b) w).setCell (.inl rfl) _).alloc _).drew⟩

/-- What the first call of Do leaves. -/
def Laid (w : World) (b ks : Nat) (w' : World) : Prop :=
  ∃ g, w.heap.size ≤ g ∧ Whole w' b 72 (tcells ks 1 0 (.slice (some ⟨g, 0, none⟩) ks ks)) ∧ Whole w' g 75 (List.replicate ks (.int .i64 0)) ∧ Kept (· = b) w w'

set_option maxRecDepth 100000 in
set_option maxHeartbeats 800000 in
theorem ta_slow (pb b ks : Nat) (hk : ks ≤ 64) (w : World) (hp : Whole w pb 24 [.pointer (some ⟨b, 0, none⟩)]) (hb : Whole w b 72 (tcells ks 0 0 (.slice none 0 0))) :
    Calls Try.prog 62 #[.pointer (some ⟨b, 1, none⟩), .func (.func 55) #[] #[.pointer (some ⟨pb, 0, none⟩)]] w fun e w' => e = .returned (.tuple #[]) ∧ Laid w b ks w' := by
  have hne := Lib.hid (hp.ne_ hb (by decide))
  have hb1 : Whole (w.setCell ⟨b, 2, none⟩ (.int .i32 1)) b 72 (tcells ks 0 1 (.slice none 0 0)) := hb.set_ 2 _
  have hp1 : Whole (w.setCell ⟨b, 2, none⟩ (.int .i32 1)) pb 24 [.pointer (some ⟨b, 0, none⟩)] := hp.far hne.out _
  have hl := run_call_load (P := Try.prog) Try.func65 (by kernel_rfl) (by kernel_rfl) (by kernel_rfl) .u32 (by kernel_rfl) (w := w.setCell ⟨b, 2, none⟩ (.int .i32 1)) (a := ⟨b, 1, none⟩) (x := 0) (hb1.cell rfl)
  have hnot : ∀ (x : Bool) (w : World), (Op.unary .not (.bool x)).run Try.prog w = .ok (.bool (!x)) w := fun _ _ => rfl
  have c2 : w.cell? ⟨b, 2, none⟩ = some (.int .i32 0) := hb.cell rfl
  have f2 : w.frozen? ⟨b, 2, none⟩ = false := hb.free 2
  have HB1 := Lib.hid hb1
  have HP1 := Lib.hid hp1
  have HB := Lib.hid hb
  clear hb1 hp1 hb hp
  go_enter_defers Try.func62, Try.ntmps62
  go_wp2_with (first
    | (go_at_call 66; refine (ta_lock ⟨b, 2, none⟩ _ (by go_simp) (by go_simp)).mono ?_; rintro e w' ⟨rfl, rfl⟩)
    | (go_at_call 61; go_in)
    | (go_at_call 55; refine (ta_closure pb b ks hk _ (by exact HP1.out) (by exact HB1.out)).mono ?_; rintro e w2 ⟨rfl, g, hg, hb2, hg2, hk2⟩))
  have hb3 : Whole (w2.drew.setCell ⟨b, 1, none⟩ (.int .u32 1)) b 72 (tcells ks 1 1 (.slice (some ⟨g, 0, none⟩) ks ks)) := hb2.drew.set_ 1 _
  have hb4 := hb3.set_ 2 (.int .i32 0)
  have hgb : g ≠ b := hg2.ne_ hb2 (by decide)
  have hk4 := ((((Kept.refl (· = b) w).setCell (p := ⟨b, 2, none⟩) (.inl rfl) (.int .i32 1)).trans hk2).drew.setCell (p := ⟨b, 1, none⟩) (.inl rfl) (.int .u32 1)).setCell (p := ⟨b, 2, none⟩) (.inl rfl) (.int .i32 0)
  have hg4 := (hg2.drew.far (p := ⟨b, 1, none⟩) hgb (.int .u32 1)).far (p := ⟨b, 2, none⟩) hgb (.int .i32 0)
  refine leaves_cons (f := 68) (args := #[.pointer (some ⟨b, 1, none⟩), .bool true]) (by simp) (by simp [go_sem]) ?_
  refine (ta_store_deferred ⟨b, 1, none⟩ (.int .u32 0) .returning _ (hb2.cell rfl) (hb2.free 1)).mono ?_
  rintro e u' w'' ⟨rfl, rfl, rfl⟩
  refine leaves_cons (f := 67) (args := #[.pointer (some ⟨b, 2, none⟩)]) (by simp [settle]) (by simp [go_sem]) ?_
  refine (ta_unlock_deferred ⟨b, 2, none⟩ _ _ (hb3.cell rfl) (hb3.free 2)).mono ?_
  rintro e u' w'' ⟨rfl, rfl, rfl⟩
  have hfin : Laid w b ks ((w2.drew.setCell ⟨b, 1, none⟩ (.int .u32 1)).setCell ⟨b, 2, none⟩ (.int .i32 0)) := ⟨g, by simpa using hg, hb4, hg4, hk4⟩
  have HF := Lib.hid hfin
  clear hb4 hb3 hk4 hg4 hgb hb2 hg2 hk2 hg hl hnot c2 f2 hfin
  simp [Leaves, settle, results, Try.results62]
  exact HF.out

theorem ta_do_first (pb b ks : Nat) (hk : ks ≤ 64) (w : World) (hp : Whole w pb 24 [.pointer (some ⟨b, 0, none⟩)]) (hb : Whole w b 72 (tcells ks 0 0 (.slice none 0 0))) :
    Calls Try.prog 54 #[.pointer (some ⟨b, 1, none⟩), .func (.func 55) #[] #[.pointer (some ⟨pb, 0, none⟩)]] w fun e w' => e = .returned (.tuple #[]) ∧ Laid w b ks w' := by
  have hl := run_call_load (P := Try.prog) Try.func65 (by kernel_rfl) (by kernel_rfl) (by kernel_rfl) .u32 (by kernel_rfl) (w := w) (a := ⟨b, 1, none⟩) (x := 0) (hb.cell rfl)
  have hnot : ∀ (x : Bool) (w : World), (Op.unary .not (.bool x)).run Try.prog w = .ok (.bool (!x)) w := fun _ _ => rfl
  have HB := Lib.hid hb
  have HP := Lib.hid hp
  clear hb hp
  go_enter Try.func54, Try.ntmps54
  go_wp2_with (first | (go_at_call 62; refine (ta_slow pb b ks hk _ (by exact HP.out) (by exact HB.out)).mono ?_; rintro e w2 ⟨rfl, hl2⟩) | (go_at_call 61; go_in))
  go_end0
  exact ⟨rfl, hl2⟩

theorem ta_do_done (b : Nat) (fv : Value) (w : World) (h0 : w.cell? ⟨b, 1, none⟩ = some (.int .u32 1)) :
    Calls Try.prog 54 #[.pointer (some ⟨b, 1, none⟩), fv] w fun e w' => e = .returned (.tuple #[]) ∧ w = w' := by
  have hl := run_call_load (P := Try.prog) Try.func65 (by kernel_rfl) (by kernel_rfl) (by kernel_rfl) .u32 (by kernel_rfl) h0
  have hnot : ∀ (x : Bool) (w : World), (Op.unary .not (.bool x)).run Try.prog w = .ok (.bool (!x)) w := fun _ _ => rfl
  go_enter Try.func54, Try.ntmps54
  go_wp2
  go_end0
  exact ⟨rfl, rfl⟩

/-- A tally at block b that holds the numbers L; its numbers lie in block go, where they are laid. -/
structure Tl (w : World) (b : Nat) (go : Option Nat) (L : List Int) : Prop where
  len : L.length ≤ 64
  bd : ∀ x ∈ L, 0 ≤ x ∧ x ≤ 1099511627776
  mem : match go with
    | none => Whole w b 72 (tcells L.length 0 0 (.slice none 0 0)) ∧ L = List.replicate L.length 0
    | some g => Whole w b 72 (tcells L.length 1 0 (.slice (some ⟨g, 0, none⟩) L.length L.length)) ∧ Whole w g 75 (L.map (.int .i64))

/-- What a call on the tally may turn. -/
def Own (b : Nat) (go : Option Nat) (i : Nat) : Prop := i = b ∨ some i = go
/-- The tally's block of numbers is the same, or new. -/
def Nx (w : World) (go go' : Option Nat) : Prop := go' = go ∨ (go = none ∧ ∃ g, go' = some g ∧ w.heap.size ≤ g)
/-- A step of the tally. -/
structure Stp (w w' : World) (b : Nat) (go go' : Option Nat) : Prop where
  k : Kept (Own b go) w w'
  n : Nx w go go'

theorem Stp.refl (w : World) (b : Nat) (go : Option Nat) : Stp w w b go go := ⟨Kept.refl _ _, .inl rfl⟩
theorem Stp.trans {w w1 w2 : World} {b : Nat} {go g1 g2 : Option Nat} (h : Stp w w1 b go g1) (k : Stp w1 w2 b g1 g2) : Stp w w2 b go g2 := by
  refine ⟨⟨k.k.os.trans h.k.os, k.k.tape.trans h.k.tape, k.k.output.trans h.k.output, Nat.le_trans h.k.size k.k.size, fun i hi hn => (k.k.block i (Nat.lt_of_lt_of_le hi h.k.size) ?_).trans (h.k.block i hi hn)⟩, ?_⟩
  · rintro (rfl | e)
    · exact hn (.inl rfl)
    · rcases h.n with rfl | ⟨rfl, g, rfl, hg⟩
      · exact hn (.inr e)
      · have := Option.some.inj e
        omega
  · rcases h.n with rfl | ⟨rfl, g, rfl, hg⟩
    · rcases k.n with rfl | ⟨rfl, g, rfl, hg⟩
      · exact .inl rfl
      · exact .inr ⟨rfl, g, rfl, Nat.le_trans h.k.size hg⟩
    · rcases k.n with rfl | ⟨h0, _⟩
      · exact .inr ⟨rfl, g, rfl, hg⟩
      · cases h0
theorem Stp.below {w w' : World} {b : Nat} {go : Option Nat} (h : Below w.heap.size w w') : Stp w w' b go go := ⟨Kept.of_below h, .inl rfl⟩
end Go.Proofs.Ytgbkloilodgjfaa
