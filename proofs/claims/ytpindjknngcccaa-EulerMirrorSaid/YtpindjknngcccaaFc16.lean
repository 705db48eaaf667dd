/- Faces of a diagram that is well formed; and the document's examples. -/
import Derived.Test.YtpindjknngcccaaFcU
import Derived.Test.YtpindjknngcccaaFcV
import Derived.Test.YtpindjknngcccaaFc15
import Derived.Test.YtpindjknngcccaaFc5
namespace Go.Proofs.Ytpindjknngcccaa
open Go.RowKit
set_option linter.unusedSimpArgs false
set_option linter.unusedVariables false


structure PreF (n : Nat) (Vs : List VC) : Prop where
  n : n ≤ 1000000
  r : ∀ x ∈ Vs, x.2.1.2.1 ≤ 1000000
  s : ∀ v ∈ Vs, ∀ d ∈ v.2.1.2.2.2, wfS d
  k : ∀ S, KeysD (sigM Vs) S → S.length ≤ 1000000
  l : (dsV Vs).length ≤ 1000000
theorem Formed.pre {A : Option Addr} {n c : Nat} {Vs : List VC} {B : Option Addr} {m k : Nat} {Es : List EC} {w : World} (hf : Formed Vs Es) (h : DgIn w A n c Vs B m k Es) (hg : GoodD Vs Es) : PreF n Vs := by
  have h8 := hf.l80
  obtain ⟨h1, h2, h3⟩ := hf.small h
  exact ⟨by omega, fun x hx => by have := h3 x hx; omega, fun v hv d hd => hf.wfS hg (ring_mem.2 ⟨v, hv, hd⟩), fun S hS => by have := hS.formed hf hg; omega, by rw [dsV_eq]; omega⟩
theorem darts5_any (A : Option Addr) (n c : Nat) (Vs : List VC) (B : Option Addr) (m k : Nat) (Es : List EC) (w : World) (h : DgIn w A n c Vs B m k Es) (hf : Formed Vs Es) (hg : GoodD Vs Es) :
    Calls Try.prog 65 #[.agg #[.slice A n c, .slice B m k]] w fun e w' => ∃ A' c', e = .returned (.slice A' (dsE Es).length c') ∧ w'.ownsRow (w.heap.size + 1) 39 3 (.slice A' (dsE Es).length c') (dsE Es).length (dartsV (dsE Es)) ∧ Below w.heap.size w w' := by
  have hp := hf.pre h hg
  refine (darts_any A n c Vs B m k Es w h hp.n hp.r).mono ?_
  rintro e w' ⟨A', c', rfl, ho, hb⟩
  have hl : (dsV Vs).length = (dsE Es).length := by
    have := congrArg List.length (sort_darts hf)
    rwa [show (sortD (dsV Vs)).length = (dsV Vs).length by simp [sortD]] at this
  rw [sort_darts hf, hl] at ho
  rw [hl]
  exact ⟨A', c', rfl, ho, hb⟩
theorem faces5_any (A : Option Addr) (n c : Nat) (Vs : List VC) (B : Option Addr) (m k : Nat) (Es : List EC) (w : World) (h : DgIn w A n c Vs B m k Es) (hf : Formed Vs Es) (hg : GoodD Vs Es) :
    Calls Try.prog 40 #[.agg #[.slice A n c, .slice B m k]] w fun e w' => ∃ A' c' X, e = .returned (.slice A' X.length c') ∧ RowsIn w' (w.heap.size + 1) 40 39 3 encD A' X.length c' X ∧ X.map (·.2.2) = orbsF (phF Vs) 80 (dsE Es) [] ∧ Below w.heap.size w w' := by
  have hp := hf.pre h hg
  refine (faces_any A n c Vs B m k Es w h hp.n hp.r hp.s hp.k hp.l).mono ?_
  rintro e w' ⟨S, A', c', X, hS, rfl, hR, hX, hb⟩
  rw [sort_darts hf, facesF_eq hf (by rw [hS.formed hf hg]; exact Nat.le_refl _) _ _ (fun x hx => (hf.ds x).1 hx)] at hX
  exact ⟨A', c', X, rfl, hR, hX, hb⟩
end Go.Proofs.Ytpindjknngcccaa
