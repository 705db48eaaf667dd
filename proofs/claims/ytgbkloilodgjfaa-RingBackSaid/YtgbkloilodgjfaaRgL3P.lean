/- 'RingBack' answers true for every row of darts, every two darts and every number, and leaves its arguments as they were.
   No condition beyond the row's own. -/
import Derived.Test.YtgbkloilodgjfaaRows
import Derived.Test.YtgbkloilodgjfaaRgL3
import Derived.Test.YtgbkloilodgjfaaRgK
import Derived.Test.YtgbkloilodgjfaaOpenS
import Derived.Test.YtgbkloilodgjfaaLawKit
import Derived.Test.YtgbkloilodgjfaaTypes
namespace Go.Proofs.Ytgbkloilodgjfaa
open Go.ChangeShapes Go.WideShapes Go.ChangeAt Go.RowKit
namespace lawRingBack

set_option maxRecDepth 100000 in
theorem contract (H : Type) (enc : TypeId × Value → H) (W : World) (base : Nat) (args : Array Value) (ds gs : List (DataW H)) (before : List MemPlace)
    (hval : ∀ (j : Nat) t v, Try.f9.params[j]? = some t → args[j]? = some v → Value.okWide Try.prog W .any base t v)
    (hW : DataW.Whole enc Try.prog Try.f9.params.toList Rows.ringBackSpec.vars false W args.toList ds gs before) :
    Calls Try.prog 9 args W fun e W' => ∃ v, e = .returned v ∧ Rows.ringBackSpec.post enc Try.prog Try.f9 false true false false W args v W' := by
  have hW' := hW
  obtain ⟨p, q, hA, hV, rfl, hfz, hnd⟩ := hW
  obtain ⟨rfl, rfl⟩ := trodVars_none hV
  rw [Try.params9] at hA hval
  obtain ⟨v0, v1, v2, d0, d1, d2, p0, p1, p2, rfl, rfl, rfl, h0, h1, h2⟩ := trodAll_three hA
  obtain ⟨A, n, c, ns0, rfl, hc0, hf0, hr0⟩ := open_slice_rows (rows_of_ints (ints_dart H)) Try.underlying42 (by kernel_rfl) (by decide) (hval 0 42 v0 rfl rfl) h0
  obtain ⟨l, hl0⟩ := darts_of_ints n ns0 (by simpa using hr0.len)
  rw [hl0] at hr0
  obtain ⟨ns1, hl1, rfl, hf1⟩ := open_array_ints (ints_dart2 H) Try.underlying53 (hval 1 53 v1 rfl rfl) h1
  obtain ⟨d, e, rfl⟩ := dart2_of_ints ns1 hl1
  obtain ⟨t0, rfl, h2b, -⟩ := open_int Try.underlying3 (hval 2 3 v2 rfl rfl) h2
  refine (law_rback A n c t0 l d e W hr0 (Nat.le_trans hr0.le hc0)).mono fun e W' ⟨he, hb⟩ => ⟨_, he, ?_⟩
  exact law_post Try.laidOut (by kernel_rfl) (tb := 4) (by kernel_rfl) Try.underlying4 rfl ⟨rfl, rfl, rfl⟩ hW' hb

set_option maxRecDepth 100000 in
theorem lifted (os : Os) (started : os.Started) (H : Type) (enc : TypeId × Value → H) :
    ReturnsInHanded {} Try.checked os 9 .any (Rows.ringBackSpec.pre6 enc Try.prog Try.f9 Rows.ringBackRow.domain false) (Rows.ringBackSpec.post enc Try.prog Try.f9 false true false false) := by
  refine returnsInHanded_of_change (C := Try.checked) Try.own started (by kernel_rfl) Try.func9
    (ChangeSpec.witness6 (enc := enc) (C := Try.checked) false ⟨#[], #[.slice none 0 0, .agg #[.int .i64 0, .int .i64 0, .int .i64 0, .int .i64 0, .int .i64 0, .int .i64 0], .int .i64 0], []⟩ 8 (by kernel_rfl) (by kernel_rfl) (by kernel_rfl) (by kernel_rfl)) ?_
  intro W base args ds gs before hval hW _ _
  exact contract H enc W base args ds gs before hval hW

theorem proved : Rows.RingBackSaid :=
  OpenClaim.holds_of_wide 9 Try.f9 rfl rfl rfl rfl rfl rfl rfl ⟨rfl, rfl, rfl, rfl, rfl⟩ rfl rfl rfl rfl rfl (by kernel_rfl) Try.func9 (by kernel_rfl)
    (of_decide_eq_true (by kernel_rfl)) (by unfold Func.isWrapper; first | (rw [if_pos (by decide +kernel)]; kernel_rfl) | (rw [if_neg (by decide +kernel)]; exact ⟨rfl, rfl⟩))
    (fun os started H enc _ => lifted os started H enc)
end lawRingBack
end Go.Proofs.Ytgbkloilodgjfaa
