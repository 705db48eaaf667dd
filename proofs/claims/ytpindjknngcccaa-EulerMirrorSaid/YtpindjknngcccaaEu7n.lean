/- The other way round, in numbers: faces, lone vertices, parts, genus are as they were. -/
import Derived.Test.YtpindjknngcccaaGV
import Derived.Test.YtpindjknngcccaaFcM
namespace Go.Proofs.Ytpindjknngcccaa
open Go.RowKit
set_option linter.unusedSimpArgs false
set_option linter.unusedVariables false

theorem ats_mir {Vs Us : List VC} (h : Us.map vS = (Vs.map mV).map vS) (i : Nat) (y : I2) : Ats Us i y ↔ Ats Vs i y := by
  have hi : Us[i]?.map vS = Vs[i]?.map fun v => vS (mV v) := by
    have h1 := congrArg (fun L : List ((Int × Int) × List D × ByteArray × Int) => L[i]?) h
    simp only [List.getElem?_map] at h1
    rw [h1]
    cases Vs[i]? <;> rfl
  constructor
  · rintro ⟨u, hu, x, hx, e⟩
    rw [hu] at hi
    cases hv : Vs[i]? with
    | none => rw [hv] at hi; cases hi
    | some v =>
      rw [hv] at hi
      have e1 : vS u = vS (mV v) := Option.some.inj hi
      have e2 : u.2.1.2.2.2 = bkL v.2.1.2.2.2 := congrArg (fun s : (Int × Int) × List D × ByteArray × Int => s.2.1) e1
      rw [e2] at hx
      exact ⟨v, hv, x, (bkL_mem _ _).1 hx, e⟩
  · rintro ⟨v, hv, x, hx, e⟩
    rw [hv] at hi
    cases hu : Us[i]? with
    | none => rw [hu] at hi; cases hi
    | some u =>
      rw [hu] at hi
      have e1 : vS u = vS (mV v) := Option.some.inj hi
      have e2 : u.2.1.2.2.2 = bkL v.2.1.2.2.2 := congrArg (fun s : (Int × Int) × List D × ByteArray × Int => s.2.1) e1
      exact ⟨u, hu, x, by rw [e2]; exact (bkL_mem _ _).2 hx, e⟩
theorem alone_vS (Ws : List VC) : aloneN Ws = ((Ws.map vS).filter fun s => decide (s.2.1 = [])).length := by
  rw [List.filter_map, List.length_map]
  rfl
theorem alone_back : ∀ Vs : List VC, aloneN (Vs.map mV) = aloneN Vs := fun Vs => by
  unfold aloneN
  rw [List.filter_map, List.length_map]
  congr 1
  refine List.filter_congr fun v _ => ?_
  have h1 : (bkL v.2.1.2.2.2).length = v.2.1.2.2.2.length := bkL_len _
  show decide (bkL v.2.1.2.2.2 = []) = decide (v.2.1.2.2.2 = [])
  refine decide_eq_decide.2 ?_
  rw [← List.length_eq_zero_iff, ← List.length_eq_zero_iff, h1]
theorem mir_nums {Vs Us : List VC} {Es : List EC} (h : Formed Vs Es) (e : Us.map vS = (Vs.map mV).map vS) : Formed Us Es ∧ facN Us Es = facN Vs Es ∧ aloneN Us = aloneN Vs ∧ labF Us = labF Vs ∧ genF Us Es = genF Vs Es ∧ mayF7 Us Es = mayF7 Vs Es := by
  have hl : Us.length = Vs.length := by simpa using congrArg List.length e
  have hf := (back_formed h).same e
  have h1 : facN Us Es = facN Vs Es := by
    unfold facN
    rw [phF_same e]
    exact (moves_cnt h h.dsn (back_formed h) (fun y hy => sg_back h hy)).2.symm
  have h2 : aloneN Us = aloneN Vs := by rw [alone_vS, e, ← alone_vS, alone_back]
  have h3 := labF_same hl (ats_mir e)
  have h4 : genF Us Es = genF Vs Es := by
    unfold genF
    rw [h1, h2, h3, hl]
  refine ⟨hf, h1, h2, h3, h4, ?_⟩
  unfold mayF7
  rw [h4, (form0 Us Es).2 hf, (form0 Vs Es).2 h]
end Go.Proofs.Ytpindjknngcccaa
