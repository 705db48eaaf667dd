/- 'IdentOrder' answers true for every three names and every three darts, and leaves its arguments as they were.
   No condition beyond the row's own. -/
import Derived.Test.YtedihfggijcciaaRows
import Derived.Test.YtedihfggijcciaaIdOrdW
import Derived.Test.YtedihfggijcciaaLawKit
import Derived.Test.YtedihfggijcciaaIdTypes
namespace Go.Proofs.Ytedihfggijcciaa
open Go.ChangeShapes Go.WideShapes Go.ChangeAt Go.RowKit
namespace lawOrder

theorem contract (H : Type) (enc : TypeId × Value → H) (W : World) (base : Nat) (args : Array Value) (ds gs : List (DataW H)) (before : List MemPlace)
    (hval : ∀ (j : Nat) t v, Try.f6.params[j]? = some t → args[j]? = some v → Value.okWide Try.prog W .any base t v)
    (hW : DataW.Whole enc Try.prog Try.f6.params.toList Rows.identOrderSpec.vars false W args.toList ds gs before) :
    Calls Try.prog 6 args W fun e W' => ∃ v, e = .returned v ∧ Rows.identOrderSpec.post enc Try.prog Try.f6 false true false false W args v W' := by
  have hW' := hW
  obtain ⟨p, q, hA, hV, rfl, hfz, hnd⟩ := hW
  obtain ⟨rfl, rfl⟩ := trodVars_none hV
  rw [Try.params6] at hA hval
  obtain ⟨v0, v1, d0, d1, p0, p1, rfl, rfl, rfl, h0, h1⟩ := trodAll_two hA
  obtain ⟨xs, l0, rfl, -⟩ := open_array_ints (ints_id3 H) Try.underlying45 (hval 0 45 v0 rfl rfl) h0
  obtain ⟨ys, l1, rfl, -⟩ := open_array_ints (ints_dart3 H) Try.underlying46 (hval 1 46 v1 rfl rfl) h1
  match xs, l0, ys, l1 with
  | [s0, n0, s1, n1, s2, n2], _, [a0, b0, c0, a1, b1, c1, a2, b2, c2], _ =>
    refine (law_order s0 n0 s1 n1 s2 n2 a0 b0 c0 a1 b1 c1 a2 b2 c2 W).mono fun e W' ⟨he, hb⟩ => ⟨_, he, ?_⟩
    exact law_post Try.laidOut (by kernel_rfl) (tb := 4) (by kernel_rfl) Try.underlying4 rfl ⟨rfl, rfl, rfl⟩ hW' hb

set_option maxRecDepth 100000 in
theorem lifted (os : Os) (started : os.Started) (H : Type) (enc : TypeId × Value → H) :
    ReturnsInHanded {} Try.checked os 6 .any (Rows.identOrderSpec.pre6 enc Try.prog Try.f6 Rows.identOrderRow.domain false) (Rows.identOrderSpec.post enc Try.prog Try.f6 false true false false) := by
  refine returnsInHanded_of_change (C := Try.checked) Try.own started (by kernel_rfl) Try.func6
    (ChangeSpec.witness6 (enc := enc) (C := Try.checked) false ⟨#[], #[.agg #[.int .i64 0, .int .i64 0, .int .i64 0, .int .i64 0, .int .i64 0, .int .i64 0], .agg #[.int .i64 0, .int .i64 0, .int .i64 0, .int .i64 0, .int .i64 0, .int .i64 0, .int .i64 0, .int .i64 0, .int .i64 0]], []⟩ 8 (by kernel_rfl) (by kernel_rfl) (by kernel_rfl) (by kernel_rfl)) ?_
  intro W base args ds gs before hval hW _ _
  exact contract H enc W base args ds gs before hval hW

theorem proved : Rows.IdentOrderSaid :=
  OpenClaim.holds_of_wide 6 Try.f6 rfl rfl rfl rfl rfl rfl rfl ⟨rfl, rfl, rfl, rfl, rfl⟩ rfl rfl rfl rfl rfl (by kernel_rfl) Try.func6 (by kernel_rfl)
    (of_decide_eq_true (by kernel_rfl)) (by unfold Func.isWrapper; first | (rw [if_pos (by decide +kernel)]; kernel_rfl) | (rw [if_neg (by decide +kernel)]; exact ⟨rfl, rfl⟩))
    (fun os started H enc _ => lifted os started H enc)
end lawOrder
end Go.Proofs.Ytedihfggijcciaa
