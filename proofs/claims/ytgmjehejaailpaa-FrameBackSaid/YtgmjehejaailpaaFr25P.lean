/- 'FrameBack' answers true for every two frames, wherever and however up to four bytes are turned.
   No condition beyond the row's own. -/
import Derived.Test.YtgmjehejaailpaaRows
import Derived.Test.YtgmjehejaailpaaFr25
import Derived.Test.YtgmjehejaailpaaFrTy3
import Derived.Test.YtgmjehejaailpaaLawKit
import Derived.Test.YtgmjehejaailpaaTypes
namespace Go.Proofs.Ytgmjehejaailpaa
open Go.ChangeShapes Go.WideShapes Go.ChangeAt Go.RowKit
namespace lawFrameBack

set_option maxRecDepth 100000 in
theorem contract (H : Type) (enc : TypeId × Value → H) (W : World) (base : Nat) (args : Array Value) (ds gs : List (DataW H)) (before : List MemPlace)
    (hval : ∀ (j : Nat) t v, Try.f5.params[j]? = some t → args[j]? = some v → Value.okWide Try.prog W .any base t v)
    (hW : DataW.Whole enc Try.prog Try.f5.params.toList Rows.frameBackSpec.vars false W args.toList ds gs before) :
    Calls Try.prog 5 args W fun e W' => ∃ v, e = .returned v ∧ Rows.frameBackSpec.post enc Try.prog Try.f5 false true false false W args v W' := by
  have hW' := hW
  obtain ⟨p, q, hA, hV, rfl, hfz, hnd⟩ := hW
  obtain ⟨rfl, rfl⟩ := trodVars_none hV
  rw [Try.params5] at hA hval
  obtain ⟨v0, v1, v2, d0, d1, d2, p0, p1, p2, rfl, rfl, rfl, h0, h1, h2⟩ := trodAll_three hA
  obtain ⟨a, rfl, hx0⟩ := open_row1_struct (row1_frame H) Try.underlying24 (hval 0 24 v0 rfl rfl) h0
  obtain ⟨b, rfl, hx1⟩ := open_row1_struct (row1_frame H) Try.underlying24 (hval 1 24 v1 rfl rfl) h1
  obtain ⟨tn, rfl, hx2⟩ := open_row1_struct (row1_turn H) Try.underlying41 (hval 2 41 v2 rfl rfl) h2
  obtain ⟨at_, tb⟩ := tn
  obtain ⟨t0, t1, t2, t3, rfl⟩ := four_of hx2.1
  have hb4 := hx2.2
  simp only [List.forall_mem_cons] at hb4
  refine (law_back a.1 a.2.1 a.2.2.1 a.2.2.2.1 a.2.2.2.2 b.1 b.2.1 b.2.2.1 b.2.2.2.1 b.2.2.2.2 at_ t0 t1 t2 t3 W hx0.2.1 hx0.2.2 (Nat.le_trans hx0.2.1.le hx0.1) hx1.2.1 hx1.2.2 (Nat.le_trans hx1.2.1.le hx1.1) hb4.1 hb4.2.1 hb4.2.2.1 hb4.2.2.2.1).mono fun e W' ⟨he, hb⟩ => ⟨_, he, ?_⟩
  exact law_post Try.laidOut (by kernel_rfl) (tb := 4) (by kernel_rfl) Try.underlying4 rfl ⟨rfl, rfl, rfl⟩ hW' hb

set_option maxRecDepth 100000 in
theorem lifted (os : Os) (started : os.Started) (H : Type) (enc : TypeId × Value → H) :
    ReturnsInHanded {} Try.checked os 5 .any (Rows.frameBackSpec.pre6 enc Try.prog Try.f5 Rows.frameBackRow.domain false) (Rows.frameBackSpec.post enc Try.prog Try.f5 false true false false) := by
  refine returnsInHanded_of_change (C := Try.checked) Try.own started (by kernel_rfl) Try.func5
    (ChangeSpec.witness6 (enc := enc) (C := Try.checked) false ⟨#[], #[.agg #[.int .i64 0, .int .i64 0, .int .i64 0, .int .i64 0, .int .i64 0, .int .i64 0, .slice none 0 0], .agg #[.int .i64 0, .int .i64 0, .int .i64 0, .int .i64 0, .int .i64 0, .int .i64 0, .slice none 0 0], .agg #[.int .i64 0, .int .u8 0, .int .u8 0, .int .u8 0, .int .u8 0]], []⟩ 8 (by kernel_rfl) (by kernel_rfl) (by kernel_rfl) (by kernel_rfl)) ?_
  intro W base args ds gs before hval hW _ _
  exact contract H enc W base args ds gs before hval hW

theorem proved : Rows.FrameBackSaid :=
  OpenClaim.holds_of_wide 5 Try.f5 rfl rfl rfl rfl rfl rfl rfl ⟨rfl, rfl, rfl, rfl, rfl⟩ rfl rfl rfl rfl rfl (by kernel_rfl) Try.func5 (by kernel_rfl)
    (of_decide_eq_true (by kernel_rfl)) (by unfold Func.isWrapper; first | (rw [if_pos (by decide +kernel)]; kernel_rfl) | (rw [if_neg (by decide +kernel)]; exact ⟨rfl, rfl⟩))
    (fun os started H enc _ => lifted os started H enc)
end lawFrameBack
end Go.Proofs.Ytgmjehejaailpaa
