/- Each part has a face. -/
import Derived.Test.YtpindjknngcccaaEuN
namespace Go.Proofs.Ytpindjknngcccaa
open Go.RowKit
set_option linter.unusedSimpArgs false
set_option linter.unusedVariables false
section
variable {Vs : List VC} {Es : List EC}
theorem lab_face (h : Formed Vs Es) {x y : D} (hx : x ∈ ringsOf Vs) (r : Rl (phF Vs) x y) : (labF Vs).getD (plD Vs y) 0 = (labF Vs).getD (plD Vs x) 0 := by
  have e := lbK_face h Es.length hx (y := y) (by
    rw [List.take_length]
    exact (Rl_congr (fk_pm h _) (fun d hd => fk_all h hd) hx y).2 r)
  rwa [lbK_all h] at e
theorem lab_oth (h : Formed Vs Es) {d : D} (hd : d ∈ ringsOf Vs) : (labF Vs).getD (plD Vs (othD d)) 0 = (labF Vs).getD (plD Vs d) 0 := by
  obtain ⟨u, hu, hr⟩ := plD_at hd
  obtain ⟨v, hv, hr'⟩ := plD_at (h.oth hd)
  exact ((labF_lab Vs).co _ _ (plD_lt hd) (plD_lt (h.oth hd)) ⟨(d.1, d.2.1), ⟨u, hu, d, hr, rfl⟩, v, hv, _, hr', rfl⟩).symm
theorem parts_faces (h : Formed Vs Es) : cntF (labF Vs) ≤ facN Vs Es + aloneN Vs := by
  obtain ⟨P, hP, e⟩ := facN_reps h
  have hl : (labF Vs).length = Vs.length := labF_len Vs
  unfold cntF
  rw [List.countP_eq_length_filter, hl]
  have h1 := inj_le (β := I2 ⊕ D) (fun (i : Nat) (b : I2 ⊕ D) => match b with
    | .inl y => ∃ v, Vs[i]? = some v ∧ v.1 = y
    | .inr p => ∃ d, d ∈ ringsOf Vs ∧ plD Vs d = i ∧ Rl (phF Vs) p d) ((List.range Vs.length).filter (rootB (labF Vs))) (((Vs.filter fun v => decide (v.2.1.2.2.2 = [])).map fun v => Sum.inl v.1) ++ P.map Sum.inr) (List.nodup_range.filter _) (fun i hi => by
      obtain ⟨hi1, hi2⟩ := List.mem_filter.1 hi
      have hin := List.mem_range.1 hi1
      obtain ⟨v, gv⟩ : ∃ v, Vs[i]? = some v := ⟨_, List.getElem?_eq_getElem hin⟩
      have hv := List.mem_of_getElem? gv
      by_cases q : v.2.1.2.2.2 = []
      · exact ⟨.inl v.1, List.mem_append.2 (.inl (List.mem_map.2 ⟨v, List.mem_filter.2 ⟨hv, decide_eq_true q⟩, rfl⟩)), v, gv, rfl⟩
      · have hm := hd_mem q
        have hr := ring_mem.2 ⟨v, hv, hm⟩
        obtain ⟨p, hp, r⟩ := hP.all _ hr
        exact ⟨.inr p, List.mem_append.2 (.inr (List.mem_map.2 ⟨p, hp, rfl⟩)), _, hr, plD_eq h.once gv hm, r⟩) (fun i hi k hk b hb r1 r2 => by
      obtain ⟨_, hi2⟩ := List.mem_filter.1 hi
      obtain ⟨_, hk2⟩ := List.mem_filter.1 hk
      cases b with
      | inl y =>
        obtain ⟨v, gv, e1⟩ := r1
        obtain ⟨u, gu, e2⟩ := r2
        have g1 : (Vs.map (·.1))[i]? = some y := by rw [List.getElem?_map, gv, ← e1]; rfl
        have g2 : (Vs.map (·.1))[k]? = some y := by rw [List.getElem?_map, gu, ← e2]; rfl
        obtain ⟨h1, h2⟩ := List.getElem?_eq_some_iff.1 g1
        obtain ⟨h3, h4⟩ := List.getElem?_eq_some_iff.1 g2
        exact (List.getElem_inj (rise_nodup h.rv)).1 (h2.trans h4.symm)
      | inr p =>
        obtain ⟨d, hd, e1, r1⟩ := r1
        obtain ⟨d', hd', e2, r2⟩ := r2
        have hpm := hP.sub p (by
          rcases List.mem_append.1 hb with hb | hb
          · obtain ⟨_, _, e⟩ := List.mem_map.1 hb; cases e
          · obtain ⟨q, hq, e⟩ := List.mem_map.1 hb; cases e; exact hq)
        have g1 := lab_face h hpm r1
        have g2 := lab_face h hpm r2
        rw [e1] at g1
        rw [e2] at g2
        have q1 : (labF Vs).getD i 0 = (i : Int) := by simpa [rootB] using hi2
        have q2 : (labF Vs).getD k 0 = (k : Int) := by simpa [rootB] using hk2
        omega)
  rw [List.length_append, List.length_map, List.length_map] at h1
  show _ ≤ facN Vs Es + aloneN Vs
  rw [e]
  unfold aloneN
  omega
/-- All of it: the genus is t, a whole number; no more than half of the edges. -/
theorem euler_all (h : Formed Vs Es) : ∃ t, 2 * cntF (labF Vs) + Es.length = Vs.length + (facN Vs Es + aloneN Vs) + 2 * t ∧ 2 * t ≤ Es.length ∧ Vs.length ≤ Es.length + cntF (labF Vs) ∧ cntF (labF Vs) ≤ facN Vs Es + aloneN Vs ∧ (Vs.length = Es.length + cntF (labF Vs) → facN Vs Es + aloneN Vs = cntF (labF Vs) ∧ t = 0) := by
  obtain ⟨t, e⟩ := euler_num h
  have h1 := parts_edges h
  have h2 := parts_faces h
  have h3 := cnt_le Vs
  exact ⟨t, e, by omega, h1, h2, fun q => by omega⟩
end
end Go.Proofs.Ytpindjknngcccaa
