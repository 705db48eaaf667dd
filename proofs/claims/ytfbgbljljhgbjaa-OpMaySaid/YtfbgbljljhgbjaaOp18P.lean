/- 'OpMay' answers true for every operation and every two edits.
   No condition beyond the row's own. -/
import Derived.Test.YtfbgbljljhgbjaaRows
import Derived.Test.YtfbgbljljhgbjaaOp18
import Derived.Test.YtfbgbljljhgbjaaOpTy
import Derived.Test.YtfbgbljljhgbjaaLawKit
import Derived.Test.YtfbgbljljhgbjaaTypes
namespace Go.Proofs.Ytfbgbljljhgbjaa
open Go.ChangeShapes Go.WideShapes Go.ChangeAt Go.RowKit
namespace lawOpMay

set_option maxRecDepth 100000 in
theorem contract (H : Type) (enc : TypeId × Value → H) (W : World) (base : Nat) (args : Array Value) (ds gs : List (DataW H)) (before : List MemPlace)
    (hval : ∀ (j : Nat) t v, Try.f3.params[j]? = some t → args[j]? = some v → Value.okWide Try.prog W .any base t v)
    (hW : DataW.Whole enc Try.prog Try.f3.params.toList Rows.opMaySpec.vars false W args.toList ds gs before) :
    Calls Try.prog 3 args W fun e W' => ∃ v, e = .returned v ∧ Rows.opMaySpec.post enc Try.prog Try.f3 false true false false W args v W' := by
  have hW' := hW
  obtain ⟨p, q, hA, hV, rfl, hfz, hnd⟩ := hW
  obtain ⟨rfl, rfl⟩ := trodVars_none hV
  rw [Try.params3] at hA hval
  obtain ⟨v0, v1, v2, d0, d1, d2, p0, p1, p2, rfl, rfl, rfl, h0, h1, h2⟩ := trodAll_three hA
  obtain ⟨o, rfl, hx0⟩ := open_row1_struct (row1_op H) Try.underlying29 (hval 0 29 v0 rfl rfl) h0
  obtain ⟨a, rfl, hx1⟩ := open_row1_struct (row1_edit H) Try.underlying32 (hval 1 32 v1 rfl rfl) h1
  obtain ⟨b, rfl, hx2⟩ := open_row1_struct (row1_edit H) Try.underlying32 (hval 2 32 v2 rfl rfl) h2
  refine (law_may a.1 b.1 a.2.1 b.2.1 a.2.2.1 b.2.2.1 o a.2.2.2 b.2.2.2 W hx1.2.1 hx2.2.1 (Nat.le_trans hx1.2.1.le hx1.1) (Nat.le_trans hx2.2.1.le hx2.1) hx0 hx1.2.2).mono fun e W' ⟨he, hb⟩ => ⟨_, he, ?_⟩
  exact law_post Try.laidOut (by kernel_rfl) (tb := 4) (by kernel_rfl) Try.underlying4 rfl ⟨rfl, rfl, rfl⟩ hW' hb

set_option maxRecDepth 100000 in
theorem lifted (os : Os) (started : os.Started) (H : Type) (enc : TypeId × Value → H) :
    ReturnsInHanded {} Try.checked os 3 .any (Rows.opMaySpec.pre6 enc Try.prog Try.f3 Rows.opMayRow.domain false) (Rows.opMaySpec.post enc Try.prog Try.f3 false true false false) := by
  refine returnsInHanded_of_change (C := Try.checked) Try.own started (by kernel_rfl) Try.func3
    (ChangeSpec.witness6 (enc := enc) (C := Try.checked) false ⟨#[], #[.agg #[.int .i64 0, .int .i64 0, .int .i64 0, .int .i64 0, .int .i64 0, .int .i64 0, .int .i64 0, .int .i64 0, .int .i64 0, .int .i64 0, .int .i64 0, .int .i64 0, .int .i64 0, .int .i64 0, .int .i64 0, .int .i64 0, .int .i64 0, .bool false, .string ⟨#[]⟩, .int .i64 0], .agg #[.slice none 0 0], .agg #[.slice none 0 0]], []⟩ 8 (by kernel_rfl) (by kernel_rfl) (by kernel_rfl) (by kernel_rfl)) ?_
  intro W base args ds gs before hval hW _ _
  exact contract H enc W base args ds gs before hval hW

theorem proved : Rows.OpMaySaid :=
  OpenClaim.holds_of_wide 3 Try.f3 rfl rfl rfl rfl rfl rfl rfl ⟨rfl, rfl, rfl, rfl, rfl⟩ rfl rfl rfl rfl rfl (by kernel_rfl) Try.func3 (by kernel_rfl)
    (of_decide_eq_true (by kernel_rfl)) (by unfold Func.isWrapper; first | (rw [if_pos (by decide +kernel)]; kernel_rfl) | (rw [if_neg (by decide +kernel)]; exact ⟨rfl, rfl⟩))
    (fun os started H enc _ => lifted os started H enc)
end lawOpMay
end Go.Proofs.Ytfbgbljljhgbjaa
