/- Rings turned, searched along: the contracts of ring.Turn, along, Next, Prev; and of ring.Same. -/
import Derived.Test.YtdhglhcpgmfpoaaRgB
namespace Go.Proofs.Ytdhglhcpgmfpoaa
open Go.RowKit
set_option linter.unusedSimpArgs false

theorem turnD_length (L : List D) : (turnD L).length = L.length := by
  have := leastI_le L L.length
  simp [turnD]
  omega

theorem parts1 {w : World} {g n c : Nat} {t : TypeId} {A : Option Addr} {L : List D} (hg : Whole w g t [.slice A n c]) (hr : RdS w w.heap.size 3 A n c (dartsV L)) : Parts w (some ⟨g, 0, none⟩) 1 [L] := by
  have := hr.dlen
  subst this
  refine ⟨rfl, fun k hk => ?_⟩
  obtain rfl : k = 0 := by omega
  exact ⟨g, 0, A, c, rfl, hg.lt, hg.cell rfl, hr⟩
theorem parts2 {w : World} {g n c n' c' : Nat} {t : TypeId} {A A' : Option Addr} {L L' : List D} (hg : Whole w g t [.slice A n c, .slice A' n' c']) (hr : RdS w w.heap.size 3 A n c (dartsV L)) (hr' : RdS w w.heap.size 3 A' n' c' (dartsV L')) : Parts w (some ⟨g, 0, none⟩) 2 [L, L'] := by
  have := hr.dlen
  have := hr'.dlen
  subst n n'
  refine ⟨rfl, fun k hk => ?_⟩
  rcases (show k = 0 ∨ k = 1 by omega) with rfl | rfl
  · exact ⟨g, 0, A, c, rfl, hg.lt, hg.cell rfl, hr⟩
  · exact ⟨g, 0, A', c', rfl, hg.lt, hg.cell rfl, hr'⟩
theorem parts3 {w : World} {g n c n' c' n2 c2 : Nat} {t : TypeId} {A A' A2 : Option Addr} {L L' L2 : List D} (hg : Whole w g t [.slice A n c, .slice A' n' c', .slice A2 n2 c2]) (hr : RdS w w.heap.size 3 A n c (dartsV L)) (hr' : RdS w w.heap.size 3 A' n' c' (dartsV L')) (hr2 : RdS w w.heap.size 3 A2 n2 c2 (dartsV L2)) : Parts w (some ⟨g, 0, none⟩) 3 [L, L', L2] := by
  have := hr.dlen
  have := hr'.dlen
  have := hr2.dlen
  subst n n' n2
  refine ⟨rfl, fun k hk => ?_⟩
  rcases (show k = 0 ∨ k = 1 ∨ k = 2 by omega) with rfl | rfl | rfl
  · exact ⟨g, 0, A, c, rfl, hg.lt, hg.cell rfl, hr⟩
  · exact ⟨g, 0, A', c', rfl, hg.lt, hg.cell rfl, hr'⟩
  · exact ⟨g, 0, A2, c2, rfl, hg.lt, hg.cell rfl, hr2⟩

theorem turn_of (A : Option Addr) (n c : Nat) (L : List D) (w : World) (g : Nat) (t : TypeId) (hg : Whole w g t [.slice A n c]) (hr : RdS w w.heap.size 3 A n c (dartsV L)) (hn : n ≤ 1000000) :
    Calls Try.prog 76 #[.slice (some ⟨g, 0, none⟩) 1 1] w (GivesR w (turnD L)) := by
  have h := turned_any (some ⟨g, 0, none⟩) 1 1 [L] w (parts1 hg hr) (by omega) (by have := hr.dlen; simp; omega)
  simpa using h

theorem turn_any (A : Option Addr) (n c : Nat) (L : List D) (w : World) (h : RdS w w.heap.size 3 A n c (dartsV L)) (hn : n ≤ 1000000) :
    Calls Try.prog 64 #[.slice A n c] w (GivesR w (turnD L)) := by
  have HT := Lib.hid (fun W g t hg hr => turn_of A n c L W g t hg hr hn)
  have H := Lib.hid h
  clear h
  go_enter Try.func64, Try.ntmps64
  go_wp2_with (go_at_call 76; refine (HT.out _ _ _ (by exact Whole.new_ w _ _) (by exact H.out.up (below1 _ _) (by simp))).mono ?_; rintro e w2 ⟨A2, c2, rfl, hr2, hb2⟩)
  go_ret
  exact ⟨A2, c2, rfl, hr2, below_after1 hb2⟩
theorem RdS.whole3 {w : World} {g : Nat} {t : TypeId} {L : List D} (hw : Whole w g t (dartsV L)) : RdS w w.heap.size 3 (some ⟨g, 0, none⟩) L.length L.length (dartsV L) :=
  ⟨dartsV_length L, fun e => (by cases e), Nat.le_refl _, fun a e _ => (by obtain rfl := Option.some.inj e; exact hw.lt), fun a e j u hj => (by
    obtain rfl := Option.some.inj e
    rw [Addr.add_lit]
    simpa using hw.cell hj)⟩
end Go.Proofs.Ytdhglhcpgmfpoaa
