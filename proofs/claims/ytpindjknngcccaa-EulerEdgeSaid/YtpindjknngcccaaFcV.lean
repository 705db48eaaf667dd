/- All darts of a diagram that is well formed, in their order. -/
import Derived.Test.YtpindjknngcccaaHA
import Derived.Test.YtpindjknngcccaaHB
namespace Go.Proofs.Ytpindjknngcccaa
open Go.RowKit
set_option linter.unusedSimpArgs false
set_option linter.unusedVariables false

theorem cfD_side (a b : Int) : cfD (a, b, 0) (a, b, 1) < 0 := by
  unfold cfD ordD
  rw [if_pos ⟨rfl, rfl⟩]
  show cmpI 0 1 < 0
  decide
theorem cfD_id {a b : Int × Int} (h : ordP a b < 0) (s t : Int) : cfD (a.1, a.2, s) (b.1, b.2, t) < 0 := by
  have hne := ordP_ne h
  unfold cfD ordD
  rw [if_neg (fun q => hne (Prod.ext q.1 q.2))]
  exact h
theorem dsE_rise : ∀ L : List EC, (L.map (·.1)).Pairwise (fun a b => ordP a b < 0) → (dsE L).Pairwise fun a b => cfD a b < 0
  | [], _ => List.Pairwise.nil
  | e :: r, h => by
    rw [List.map_cons, List.pairwise_cons] at h
    have key : ∀ s, ∀ d ∈ dsE r, cfD (e.1.1, e.1.2, s) d < 0 := fun s d hd => by
      obtain ⟨f, hf, h1, _⟩ := (dsE_mem r d).1 hd
      have := cfD_id (h.1 f.1 (List.mem_map.2 ⟨f, hf, rfl⟩)) s d.2.2
      rw [h1] at this
      exact this
    rw [dsE_cons, List.pairwise_cons, List.pairwise_cons]
    refine ⟨fun d hd => ?_, key 1, dsE_rise r h.2⟩
    rcases List.mem_cons.1 hd with rfl | hd
    · exact cfD_side _ _
    · exact key 0 d hd
section
variable {Vs : List VC} {Es : List EC}
theorem dsV_eq (Vs : List VC) : dsV Vs = ringsOf Vs := rfl
theorem Formed.rise (h : Formed Vs Es) : (dsE Es).Pairwise fun a b => cfD a b < 0 := dsE_rise Es ((riseF_iff _ _).1 h.re).2.2
theorem Formed.dsn (h : Formed Vs Es) : (dsE Es).Nodup := h.rise.imp (fun {a b} q e => by subst e; have := (cfD_zero a a).2 rfl; omega)
theorem sort_darts (h : Formed Vs Es) : sortD (dsV Vs) = dsE Es := by
  have hp : (dsV Vs).Perm (dsE Es) := (List.perm_ext_iff_of_nodup h.once h.dsn).2 fun d => (h.ds d).symm
  refine List.Perm.eq_of_pairwise (le := fun a b => cfD a b ≤ 0) (fun a b _ _ h1 h2 => ?_) ?_ (h.rise.imp (fun q => by omega)) ((List.mergeSort_perm _ _).trans hp)
  · have := cfD_neg a b
    exact (cfD_zero a b).1 (by omega)
  · have hl : ∀ a b : D, (!(ltOf cfD) b a) = true ↔ cfD a b ≤ 0 := fun a b => by
      rw [ltD]
      have := cfD_neg a b
      simp
      omega
    refine (List.pairwise_mergeSort (le := fun x y => !(ltOf cfD) y x) (fun a b c h1 h2 => ?_) (fun a b => ?_) (dsV Vs)).imp (fun {a b} q => (hl a b).1 q)
    · rw [hl] at *
      exact cfD_trans _ _ _ h1 h2
    · rw [Bool.or_eq_true, hl, hl]
      have := cfD_neg a b
      omega
end
end Go.Proofs.Ytpindjknngcccaa
