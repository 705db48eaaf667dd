/- Clone; the first name of some bytes; Take, and the document's answer for it. -/
import Derived.Test.YtedihfggijcciaaIdE
import Derived.Test.YtedihfggijcciaaCalm
namespace Go.Proofs.Ytedihfggijcciaa
open Go.RowKit

theorem bytesV_one (l : List Int) : ∀ u ∈ bytesV l, u.oneCell' = true := fun u hu => by
  obtain ⟨_, _, rfl⟩ := List.mem_map.1 hu
  rfl

theorem clone_any (A : Option Addr) (n c : Nat) (bs : List Int) (w : World) (h : RdS w w.heap.size 1 A n c (bytesV bs)) (hn : n ≤ 1048576) :
    Calls Try.prog 29 #[.slice A n c] w (GivesB w bs) := by
  obtain ⟨i0, hi, hz0, hz1, hz2⟩ := info_parts info_u8
  have hl : bs.length = n := by simpa [bytesV] using h.len
  cases A with
  | none =>
    obtain ⟨rfl, rfl⟩ := h.none_ rfl
    obtain rfl : bs = [] := List.eq_nil_of_length_eq_zero hl
    clear h hl
    have hq := fun W => Lib.run_eql_slice_nil (P := Try.prog) W 34 5 none 0 0 0 0 Try.underlying34
    go_enter Try.func29, Try.ntmps29
    go_wp2
    go_ret
    exact ⟨_, rfl, World.ownsRow_nil _ _ _ _, Below.refl _ _⟩
  | some a =>
    have H := Lib.hid h
    have HL := Lib.hid hl
    have hq := fun W => Lib.run_eql_slice_nil (P := Try.prog) W 34 5 (some a) n c 0 0 Try.underlying34
    clear h hl
    go_enter Try.func29, Try.ntmps29
    go_wp2_with (at_builtin; refine wpList_append_rds rfl (.tmp 5) (.tmp 6) _ rfl w.heap.size 5 i0 (.int .u8 0) 1 1 Try.underlying34 hi hz0 hz1 hz2 rfl (by decide) (.slice (some ⟨w.heap.size, 0, none⟩) 0 0) 0 [] rfl (by exact own_new rfl (Nat.le_refl _) (by unfold maxLen; omega) (by simp) rfl) w.heap.size (some a) n c (bytesV bs) rfl (by exact H.out.below (below1 _ _)) (bytesV_one _) (by unfold maxLen; omega) (by omega) (by simp) ?_; intro v1 w1 hown1 hg1 hat1)
    go_ret
    refine ⟨_, rfl, ?_, (below1 w _).grown hg1 (by simp) (by simp [Value.ownBlock])⟩
    rw [HL.out]
    simpa using hown1
end Go.Proofs.Ytedihfggijcciaa
