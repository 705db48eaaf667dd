/- 'RingInserts' answers true for every two rows of darts, and leaves its arguments as they were.
   No condition beyond the row's own. -/
import Derived.Test.YtgbkloilodgjfaaRows
import Derived.Test.YtgbkloilodgjfaaRgL5
import Derived.Test.YtgbkloilodgjfaaRgK
import Derived.Test.YtgbkloilodgjfaaOpenS
import Derived.Test.YtgbkloilodgjfaaLawKit
import Derived.Test.YtgbkloilodgjfaaTypes
namespace Go.Proofs.Ytgbkloilodgjfaa
open Go.ChangeShapes Go.WideShapes Go.ChangeAt Go.RowKit
namespace lawRingInserts

set_option maxRecDepth 100000 in
theorem contract (H : Type) (enc : TypeId × Value → H) (W : World) (base : Nat) (args : Array Value) (ds gs : List (DataW H)) (before : List MemPlace)
    (hval : ∀ (j : Nat) t v, Try.f11.params[j]? = some t → args[j]? = some v → Value.okWide Try.prog W .any base t v)
    (hW : DataW.Whole enc Try.prog Try.f11.params.toList Rows.ringInsertsSpec.vars false W args.toList ds gs before) :
    Calls Try.prog 11 args W fun e W' => ∃ v, e = .returned v ∧ Rows.ringInsertsSpec.post enc Try.prog Try.f11 false true false false W args v W' := by
  have hW' := hW
  obtain ⟨p, q, hA, hV, rfl, hfz, hnd⟩ := hW
  obtain ⟨rfl, rfl⟩ := trodVars_none hV
  rw [Try.params11] at hA hval
  obtain ⟨v0, v1, d0, d1, p0, p1, rfl, rfl, rfl, h0, h1⟩ := trodAll_two hA
  obtain ⟨A, n, c, ns0, rfl, hc0, hf0, hr0⟩ := open_slice_rows (rows_of_ints (ints_dart H)) Try.underlying42 (by kernel_rfl) (by decide) (hval 0 42 v0 rfl rfl) h0
  obtain ⟨l, hl0⟩ := darts_of_ints n ns0 (by simpa using hr0.len)
  rw [hl0] at hr0
  obtain ⟨A', n', c', ns1, rfl, hc1, hf1, hr1⟩ := open_slice_rows (rows_of_ints (ints_dart H)) Try.underlying42 (by kernel_rfl) (by decide) (hval 1 42 v1 rfl rfl) h1
  obtain ⟨l', hl1⟩ := darts_of_ints n' ns1 (by simpa using hr1.len)
  rw [hl1] at hr1
  refine (law_rinserts A A' n c n' c' l l' W hr0 hr1 (Nat.le_trans hr0.le hc0) (Nat.le_trans hr1.le hc1)).mono fun e W' ⟨he, hb⟩ => ⟨_, he, ?_⟩
  exact law_post Try.laidOut (by kernel_rfl) (tb := 4) (by kernel_rfl) Try.underlying4 rfl ⟨rfl, rfl, rfl⟩ hW' hb

set_option maxRecDepth 100000 in
theorem lifted (os : Os) (started : os.Started) (H : Type) (enc : TypeId × Value → H) :
    ReturnsInHanded {} Try.checked os 11 .any (Rows.ringInsertsSpec.pre6 enc Try.prog Try.f11 Rows.ringInsertsRow.domain false) (Rows.ringInsertsSpec.post enc Try.prog Try.f11 false true false false) := by
  refine returnsInHanded_of_change (C := Try.checked) Try.own started (by kernel_rfl) Try.func11
    (ChangeSpec.witness6 (enc := enc) (C := Try.checked) false ⟨#[], #[.slice none 0 0, .slice none 0 0], []⟩ 8 (by kernel_rfl) (by kernel_rfl) (by kernel_rfl) (by kernel_rfl)) ?_
  intro W base args ds gs before hval hW _ _
  exact contract H enc W base args ds gs before hval hW

theorem proved : Rows.RingInsertsSaid :=
  OpenClaim.holds_of_wide 11 Try.f11 rfl rfl rfl rfl rfl rfl rfl ⟨rfl, rfl, rfl, rfl, rfl⟩ rfl rfl rfl rfl rfl (by kernel_rfl) Try.func11 (by kernel_rfl)
    (of_decide_eq_true (by kernel_rfl)) (by unfold Func.isWrapper; first | (rw [if_pos (by decide +kernel)]; kernel_rfl) | (rw [if_neg (by decide +kernel)]; exact ⟨rfl, rfl⟩))
    (fun os started H enc _ => lifted os started H enc)
end lawRingInserts
end Go.Proofs.Ytgbkloilodgjfaa
