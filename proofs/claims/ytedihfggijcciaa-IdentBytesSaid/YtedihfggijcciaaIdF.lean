/- The document's examples for ident hold. -/
import Derived.Test.YtedihfggijcciaaIdE
namespace Go.Proofs.Ytedihfggijcciaa
open Go.RowKit

theorem shown_any : Pure 9 #[] (.bool true) := fun w => by
  have HP := Lib.hid (fun W h => put_any none 0 0 [] 2 258 W h (by omega) (by omega) (by omega))
  have hN := fun W a => next_any (some a) 3 3 [(1, 3), (2, 9), (1, 1)] 1 W
  have hX : nextI 1 [(1, 3), (2, 9), (1, 1)] = (1, 4) := by decide
  simp only [hX] at hN
  have HN := Lib.hid hN
  clear hX hN
  have hB : strB (nameB 2 258) = ⟨#[2, 0, 1, 2]⟩ := by decide
  go_enter Try.func9, Try.ntmps9
  go_wp2_with (first
    | (go_at_call 22
       refine (HP.out _ (by exact ⟨rfl, fun _ => ⟨rfl, rfl⟩, Nat.le_refl _, fun a ha => (by cases ha), fun a ha => (by cases ha)⟩)).mono ?_
       rintro e w1 ⟨v1, rfl, hown1, hb1⟩
       obtain ⟨A1, c1, rfl, hr1⟩ := RdS.of_own hown1
       have hconv := conv_rds (P := Try.prog) Try.underlying34 Try.underlying5 Try.underlying9 hr1
       simp only [List.nil_append, hB] at hconv
       clear hr1 hown1)
    | (go_at_call 24
       refine (HN.out _ _ (by exact RdS.new_ rfl (by simp) rfl rfl) (by omega)).mono ?_
       rintro e w2 ⟨rfl, hb2⟩))
  go_ret
  exact ⟨rfl, hb1.trans (below_after1 hb2 |>.mono hb1.size)⟩
end Go.Proofs.Ytedihfggijcciaa
