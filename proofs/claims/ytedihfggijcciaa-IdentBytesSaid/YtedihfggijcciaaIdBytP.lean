/- 'IdentBytes' answers true for every bytes, every name and every names with a site, and leaves its arguments as they were.
   No condition beyond the row's own. -/
import Derived.Test.YtedihfggijcciaaRows
import Derived.Test.YtedihfggijcciaaIdBytL
import Derived.Test.YtedihfggijcciaaOpenS
import Derived.Test.YtedihfggijcciaaLawKit
import Derived.Test.YtedihfggijcciaaIdTypes
namespace Go.Proofs.Ytedihfggijcciaa
open Go.ChangeShapes Go.WideShapes Go.ChangeAt Go.RowKit
namespace lawIdentBytes

theorem contract (H : Type) (enc : TypeId × Value → H) (W : World) (base : Nat) (args : Array Value) (ds gs : List (DataW H)) (before : List MemPlace)
    (hval : ∀ (j : Nat) t v, Try.f4.params[j]? = some t → args[j]? = some v → Value.okWide Try.prog W .any base t v)
    (hW : DataW.Whole enc Try.prog Try.f4.params.toList Rows.identBytesSpec.vars false W args.toList ds gs before) :
    Calls Try.prog 4 args W fun e W' => ∃ v, e = .returned v ∧ Rows.identBytesSpec.post enc Try.prog Try.f4 false true false false W args v W' := by
  have hW' := hW
  obtain ⟨p, q, hA, hV, rfl, hfz, hnd⟩ := hW
  obtain ⟨rfl, rfl⟩ := trodVars_none hV
  rw [Try.params4] at hA hval
  obtain ⟨v0, v1, v2, d0, d1, d2, p0, p1, p2, rfl, rfl, rfl, h0, h1, h2⟩ := trodAll_three hA
  obtain ⟨A, n, c, bs, rfl, hc, hf, hr⟩ := open_slice_rows (rows_u8 Try.underlying5) Try.underlying34 (by kernel_rfl) (by decide) (hval 0 34 v0 rfl rfl) h0
  obtain ⟨xs, l1, rfl, -⟩ := open_struct_ints (ints_id H) Try.underlying23 (hval 1 23 v1 rfl rfl) h1
  obtain ⟨u0, u1, y0, y1, k, rfl, -, -, e0, e1⟩ := Joins.open_agg2 Try.underlying37 (by kernel_rfl) (by kernel_rfl) (hval 2 37 v2 rfl rfl) h2
  obtain ⟨A2, n2, c2, ns, rfl, hc2, -, hr2⟩ := open_cell_rows (rows_of_ints (ints_id H)) Try.underlying35 (by kernel_rfl) (by decide) e0
  obtain ⟨site, hs, -, -⟩ := DataW.trod_int Try.underlying3 e1
  obtain rfl : u1 = .int .i64 site := by simpa using hs
  obtain ⟨l, hl⟩ := names_of_ints n2 ns (by simpa using hr2.len)
  rw [hl, ← namesV_flat] at hr2
  match xs, l1 with
  | [s, m], _ =>
    refine (law_bytes s m site A A2 n c n2 c2 bs l W hf hr hr2).mono fun e W' ⟨he, hb⟩ => ⟨_, he, ?_⟩
    exact law_post Try.laidOut (by kernel_rfl) (tb := 4) (by kernel_rfl) Try.underlying4 rfl ⟨rfl, rfl, rfl⟩ hW' hb

set_option maxRecDepth 100000 in
theorem lifted (os : Os) (started : os.Started) (H : Type) (enc : TypeId × Value → H) :
    ReturnsInHanded {} Try.checked os 4 .any (Rows.identBytesSpec.pre6 enc Try.prog Try.f4 Rows.identBytesRow.domain false) (Rows.identBytesSpec.post enc Try.prog Try.f4 false true false false) := by
  refine returnsInHanded_of_change (C := Try.checked) Try.own started (by kernel_rfl) Try.func4
    (ChangeSpec.witness6 (enc := enc) (C := Try.checked) false ⟨#[], #[.slice none 0 0, .agg #[.int .i64 0, .int .i64 0], .agg #[.slice none 0 0, .int .i64 0]], []⟩ 8 (by kernel_rfl) (by kernel_rfl) (by kernel_rfl) (by kernel_rfl)) ?_
  intro W base args ds gs before hval hW _ _
  exact contract H enc W base args ds gs before hval hW

theorem proved : Rows.IdentBytesSaid :=
  OpenClaim.holds_of_wide 4 Try.f4 rfl rfl rfl rfl rfl rfl rfl ⟨rfl, rfl, rfl, rfl, rfl⟩ rfl rfl rfl rfl rfl (by kernel_rfl) Try.func4 (by kernel_rfl)
    (of_decide_eq_true (by kernel_rfl)) (by unfold Func.isWrapper; first | (rw [if_pos (by decide +kernel)]; kernel_rfl) | (rw [if_neg (by decide +kernel)]; exact ⟨rfl, rfl⟩))
    (fun os started H enc _ => lifted os started H enc)
end lawIdentBytes
end Go.Proofs.Ytedihfggijcciaa
