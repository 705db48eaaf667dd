/- 'DiagramLabels' answers true for every diagram, every two texts and every number.
   No condition beyond the row's own. -/
import Derived.Test.YtdhglhcpgmfpoaaRows
import Derived.Test.YtdhglhcpgmfpoaaDg29
import Derived.Test.YtdhglhcpgmfpoaaDgTy
import Derived.Test.YtdhglhcpgmfpoaaLawB
import Derived.SizedLaws
namespace Go.Proofs.Ytdhglhcpgmfpoaa
open Go.ChangeShapes Go.WideShapes Go.ChangeAt Go.RowKit
theorem open_texts {H : Type} {P : Program} {w W : World} {t e : TypeId} {r : Reach} {b0 : Nat} {enc : TypeId × Value → H} {held : Bool} {v : Value} {d : DataW H} {ps : List MemPlace}
    (ht : P.underlying t = some (.array 2 e)) (he : P.underlying e = some .string) (ce : P.cellsOf e = 1) (ct : P.cellsOf t = 2) (hv : Value.okWide P w r b0 t v) (hd : DataW.Trod enc P W 0 (fun _ => true) held t v d ps) :
    ∃ s0 s1 : ByteArray, v = .agg #[.string s0, .string s1] ∧ d = .agg [.lit (.string s0.data.toList), .lit (.string s1.data.toList)] ∧ s0.size ≤ maxLen ∧ s1.size ≤ maxLen := by
  simp only [Value.okWide, ht] at hv
  obtain ⟨cs, rfl, _, _⟩ := hv
  obtain ⟨fuel, hf⟩ := hd
  obtain ⟨xs, m, _, hx, hl, hn, hg⟩ := DataW.trod_array ht hf
  simp only [Value.cells] at hl hg
  rw [ct] at hl
  have g0 := hg 0 (by omega)
  have g1 := hg 1 (by omega)
  rw [ce, List.getElem?_eq_getElem (by omega)] at g0 g1
  obtain ⟨s0, c0, x0, z0⟩ := DataW.trod_string he g0
  obtain ⟨s1, c1, x1, z1⟩ := DataW.trod_string he g1
  have hcs : cs.toList = [.string s0, .string s1] := by
    match hq : cs.toList, hl with
    | [a, b], _ =>
      rw [hq] at c0 c1
      simp at c0 c1
      rw [c0, c1]
  have hxs : xs = [(.lit (.string s0.data.toList), []), (.lit (.string s1.data.toList), [])] := by
    match xs, hn, x0, x1 with
    | [a, b], _, x0, x1 =>
      simp at x0 x1
      rw [x0, x1]
  refine ⟨s0, s1, ?_, ?_, z0, z1⟩
  · rw [← hcs, Array.toArray_toList]
  · rw [hxs] at hx
    simpa using congrArg Prod.fst hx
namespace lawDiagramLabels

set_option maxRecDepth 100000 in
theorem contract (H : Type) (enc : TypeId × Value → H) (W : World) (base : Nat) (args : Array Value) (ds gs : List (DataW H)) (before : List MemPlace)
    (hval : ∀ (j : Nat) t v, Try.f8.params[j]? = some t → args[j]? = some v → Value.okWide Try.prog W .any base t v)
    (hW : DataW.Whole enc Try.prog Try.f8.params.toList Rows.diagramLabelsSpec.vars false W args.toList ds gs before)
    (hz : (DataW.weightsEach Try.prog (Try.f8.params.toList ++ Rows.diagramLabelsSpec.plain.varTypes Try.prog) (ds ++ gs)).all (· ≤ reachBytes) = true) :
    Calls Try.prog 8 args W fun e W' => ∃ v, e = .returned v ∧ Rows.diagramLabelsSpec.post enc Try.prog Try.f8 false true false false W args v W' := by
  have hW' := hW
  obtain ⟨p, q, hA, hV, rfl, hfz, hnd⟩ := hW
  obtain ⟨rfl, rfl⟩ := trodVars_none hV
  rw [Try.params8] at hA hval hz
  obtain ⟨v0, v1, v2, d0, d1, d2, p0, p1, p2, rfl, rfl, rfl, h0, h1, h2⟩ := trodAll_three hA
  obtain ⟨d, rfl, hx0⟩ := open_row1_struct (row1_diagram H) Try.underlying25 (hval 0 25 v0 rfl rfl) h0
  obtain ⟨s0, s1, rfl, rfl, hs0, hs1⟩ := open_texts Try.underlying59 Try.underlying9 (by kernel_rfl) (by kernel_rfl) (hval 1 59 v1 rfl rfl) h1
  obtain ⟨x, rfl, h2b, -⟩ := open_int Try.underlying3 (hval 2 3 v2 rfl rfl) h2
  have hw0 : s0.size ≤ reachBytes := by
    have h9 := List.all_eq_true.1 hz s0.data.toList.length (DataW.weights_mem_each (j := 1) rfl rfl _ (by simp [DataW.weights, Try.underlying59, DataW.weightsAll]))
    simpa using h9
  have hw1 : s1.size ≤ reachBytes := by
    have h9 := List.all_eq_true.1 hz s1.data.toList.length (DataW.weights_mem_each (j := 1) rfl rfl _ (by simp [DataW.weights, Try.underlying59, DataW.weightsAll]))
    simpa using h9
  have hr9 := reachBytes_lt
  refine (law_labels d.1.1 d.1.2.1 d.1.2.2.1 d.1.2.2.2 d.2.1 d.2.2.1 d.2.2.2.1 d.2.2.2.2 s0 s1 x W hx0.dg hx0.good hx0.max.1 hx0.max.2 hs0 hs1 (by omega)).mono fun e W' ⟨he, hb⟩ => ⟨_, he, ?_⟩
  exact law_post Try.laidOut (by kernel_rfl) (tb := 4) (by kernel_rfl) Try.underlying4 rfl ⟨rfl, rfl, rfl⟩ hW' hb

set_option maxRecDepth 100000 in
theorem lifted (os : Os) (started : os.Started) (H : Type) (enc : TypeId × Value → H) :
    ReturnsInHanded {} Try.checked os 8 .any (Rows.diagramLabelsSpec.pre6 enc Try.prog Try.f8 Rows.diagramLabelsRow.domain false) (Rows.diagramLabelsSpec.post enc Try.prog Try.f8 false true false false) := by
  refine returnsInHanded_of_change_sized (C := Try.checked) Try.own started (by kernel_rfl) Try.func8
    (ChangeSpec.witness6 (enc := enc) (C := Try.checked) false ⟨#[], #[.agg #[.slice none 0 0, .slice none 0 0], .agg #[.string ⟨#[]⟩, .string ⟨#[]⟩], .int .i64 0], []⟩ 8 (by kernel_rfl) (by kernel_rfl) (by kernel_rfl) (by kernel_rfl)) ?_
  intro W base args ds gs before hval hW _ hz _
  exact contract H enc W base args ds gs before hval hW hz

theorem proved : Rows.DiagramLabelsSaid :=
  OpenClaim.holds_of_wide 8 Try.f8 rfl rfl rfl rfl rfl rfl rfl ⟨rfl, rfl, rfl, rfl, rfl⟩ rfl rfl rfl rfl rfl (by kernel_rfl) Try.func8 (by kernel_rfl)
    (of_decide_eq_true (by kernel_rfl)) (by unfold Func.isWrapper; first | (rw [if_pos (by decide +kernel)]; kernel_rfl) | (rw [if_neg (by decide +kernel)]; exact ⟨rfl, rfl⟩))
    (fun os started H enc _ => lifted os started H enc)
end lawDiagramLabels
end Go.Proofs.Ytdhglhcpgmfpoaa
