/- 'IdentNames' answers true for every two names and every two darts, and leaves its arguments as they were.
   No condition beyond the row's own. -/
import Derived.Test.YtedihfggijcciaaRows
import Derived.Test.YtedihfggijcciaaIdNamW
import Derived.Test.YtedihfggijcciaaLawKit
import Derived.Test.YtedihfggijcciaaIdTypes
namespace Go.Proofs.Ytedihfggijcciaa
open Go.ChangeShapes Go.WideShapes Go.ChangeAt Go.RowKit
namespace lawIdentNames

theorem contract (H : Type) (enc : TypeId × Value → H) (W : World) (base : Nat) (args : Array Value) (ds gs : List (DataW H)) (before : List MemPlace)
    (hval : ∀ (j : Nat) t v, Try.f3.params[j]? = some t → args[j]? = some v → Value.okWide Try.prog W .any base t v)
    (hW : DataW.Whole enc Try.prog Try.f3.params.toList Rows.identNamesSpec.vars false W args.toList ds gs before) :
    Calls Try.prog 3 args W fun e W' => ∃ v, e = .returned v ∧ Rows.identNamesSpec.post enc Try.prog Try.f3 false true false false W args v W' := by
  have hW' := hW
  obtain ⟨p, q, hA, hV, rfl, hfz, hnd⟩ := hW
  obtain ⟨rfl, rfl⟩ := trodVars_none hV
  rw [Try.params3] at hA hval
  obtain ⟨v0, v1, v2, d0, d1, d2, p0, p1, p2, rfl, rfl, rfl, h0, h1, h2⟩ := trodAll_three hA
  obtain ⟨xs, l0, rfl, -⟩ := open_struct_ints (ints_id H) Try.underlying23 (hval 0 23 v0 rfl rfl) h0
  obtain ⟨ys, l1, rfl, -⟩ := open_struct_ints (ints_id H) Try.underlying23 (hval 1 23 v1 rfl rfl) h1
  obtain ⟨zs, l2, rfl, -⟩ := open_array_ints (ints_dart2 H) Try.underlying26 (hval 2 26 v2 rfl rfl) h2
  match xs, l0, ys, l1, zs, l2 with
  | [s0, n0], _, [s1, n1], _, [a0, b0, c0, a1, b1, c1], _ =>
    refine (law_names s0 n0 s1 n1 a0 b0 c0 a1 b1 c1 W).mono fun e W' ⟨he, hb⟩ => ⟨_, he, ?_⟩
    exact law_post Try.laidOut (by kernel_rfl) (tb := 4) (by kernel_rfl) Try.underlying4 rfl ⟨rfl, rfl, rfl⟩ hW' hb

set_option maxRecDepth 100000 in
theorem lifted (os : Os) (started : os.Started) (H : Type) (enc : TypeId × Value → H) :
    ReturnsInHanded {} Try.checked os 3 .any (Rows.identNamesSpec.pre6 enc Try.prog Try.f3 Rows.identNamesRow.domain false) (Rows.identNamesSpec.post enc Try.prog Try.f3 false true false false) := by
  refine returnsInHanded_of_change (C := Try.checked) Try.own started (by kernel_rfl) Try.func3
    (ChangeSpec.witness6 (enc := enc) (C := Try.checked) false ⟨#[], #[.agg #[.int .i64 0, .int .i64 0], .agg #[.int .i64 0, .int .i64 0], .agg #[.int .i64 0, .int .i64 0, .int .i64 0, .int .i64 0, .int .i64 0, .int .i64 0]], []⟩ 8 (by kernel_rfl) (by kernel_rfl) (by kernel_rfl) (by kernel_rfl)) ?_
  intro W base args ds gs before hval hW _ _
  exact contract H enc W base args ds gs before hval hW

theorem proved : Rows.IdentNamesSaid :=
  OpenClaim.holds_of_wide 3 Try.f3 rfl rfl rfl rfl rfl rfl rfl ⟨rfl, rfl, rfl, rfl, rfl⟩ rfl rfl rfl rfl rfl (by kernel_rfl) Try.func3 (by kernel_rfl)
    (of_decide_eq_true (by kernel_rfl)) (by unfold Func.isWrapper; first | (rw [if_pos (by decide +kernel)]; kernel_rfl) | (rw [if_neg (by decide +kernel)]; exact ⟨rfl, rfl⟩))
    (fun os started H enc _ => lifted os started H enc)
end lawIdentNames
end Go.Proofs.Ytedihfggijcciaa
