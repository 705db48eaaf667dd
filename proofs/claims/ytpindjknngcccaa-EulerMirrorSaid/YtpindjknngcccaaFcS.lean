/- The next dart round a vertex and round a face, as functions that are one to one on the darts of a diagram that is well formed. -/
import Derived.Test.YtpindjknngcccaaGN
import Derived.Test.YtpindjknngcccaaFc4
import Derived.Test.YtpindjknngcccaaCm13n
namespace Go.Proofs.Ytpindjknngcccaa
open Go.RowKit
set_option linter.unusedSimpArgs false
set_option linter.unusedVariables false

theorem nxR_get {R : List D} (hn : R.Nodup) (f : D → Option D) : ∀ k, k ≤ R.length → ∀ y, nxR R k f y = if y ∈ R.take k then some (R.getD ((R.idxOf y + 1) % R.length) (0, 0, 0)) else f y
  | 0, _, y => by simp [nxR]
  | k + 1, hk, y => by
    have hk' : k < R.length := by omega
    have e : R.take (k + 1) = R.take k ++ [R.getD k (0, 0, 0)] := by
      rw [List.take_succ_eq_append_getElem hk', List.getD_eq_getElem?_getD, List.getElem?_eq_getElem hk']
      rfl
    have ei : R.idxOf (R.getD k (0, 0, 0)) = k := by
      rw [List.getD_eq_getElem?_getD, List.getElem?_eq_getElem hk']
      exact hn.idxOf_getElem k hk'
    rw [nxR]
    show (if y = R.getD k (0, 0, 0) then some (R.getD ((k + 1) % R.length) (0, 0, 0)) else nxR R k f y) = _
    rw [nxR_get hn f k (by omega) y, e]
    by_cases q : y = R.getD k (0, 0, 0)
    · rw [if_pos q, if_pos (List.mem_append.2 (.inr (List.mem_singleton.2 q))), q, ei]
    · rw [if_neg q]
      by_cases q2 : y ∈ R.take k
      · rw [if_pos q2, if_pos (List.mem_append.2 (.inl q2))]
      · rw [if_neg q2, if_neg (fun h => (List.mem_append.1 h).elim q2 (fun h => q (List.mem_singleton.1 h)))]
/-- The next one round its ring, of a dart that is there. -/
def nxtR (R : List D) (y : D) : D := R.getD ((R.idxOf y + 1) % R.length) (0, 0, 0)
theorem nxV_get : ∀ (Vs : List VC) (f : D → Option D), (ringsOf Vs).Nodup → (∀ y, y ∉ ringsOf Vs → nxV Vs f y = f y) ∧ ∀ v ∈ Vs, ∀ y ∈ v.2.1.2.2.2, nxV Vs f y = some (nxtR v.2.1.2.2.2 y)
  | [], f, _ => ⟨fun _ _ => rfl, by simp⟩
  | v :: r, f, hn => by
    have hn0 := hn
    rw [ringsOf_cons, List.nodup_append] at hn
    obtain ⟨h1, h2⟩ := nxV_get r (nxR v.2.1.2.2.2 v.2.1.2.2.2.length f) hn.2.1
    have hg := fun y => nxR_get hn.1 f v.2.1.2.2.2.length (Nat.le_refl _) y
    rw [List.take_length] at hg
    constructor
    · intro y hy
      rw [ringsOf_cons, List.mem_append, not_or] at hy
      rw [nxV, h1 y hy.2, hg, if_neg hy.1]
    · intro u hu y hy
      rcases List.mem_cons.1 hu with rfl | hu
      · have hy2 : y ∉ ringsOf r := fun q => hn.2.2 y hy y q rfl
        rw [nxV, h1 y hy2, hg, if_pos hy]
        rfl
      · rw [nxV]
        exact h2 u hu y hy
section
variable {Vs : List VC} {Es : List EC}
theorem sigM_at (hn : (ringsOf Vs).Nodup) {v : VC} (hv : v ∈ Vs) {y : D} (hy : y ∈ v.2.1.2.2.2) : sigM Vs y = some (nxtR v.2.1.2.2.2 y) := (nxV_get Vs _ hn).2 v hv y hy
theorem sigM_no (hn : (ringsOf Vs).Nodup) {y : D} (hy : y ∉ ringsOf Vs) : sigM Vs y = none := (nxV_get Vs _ hn).1 y hy
theorem ring_mem {y : D} : y ∈ ringsOf Vs ↔ ∃ v ∈ Vs, y ∈ v.2.1.2.2.2 := List.mem_flatMap
/-- The next dart round its vertex; and round its face. -/
def sgF (Vs : List VC) (y : D) : D := (sigM Vs y).getD (0, 0, 0)
def phF (Vs : List VC) (y : D) : D := sgF Vs (othD y)
theorem sgF_at (hn : (ringsOf Vs).Nodup) {v : VC} (hv : v ∈ Vs) {y : D} (hy : y ∈ v.2.1.2.2.2) : sgF Vs y = nxtR v.2.1.2.2.2 y := by rw [sgF, sigM_at hn hv hy]; rfl
theorem sigM_eq (hn : (ringsOf Vs).Nodup) (y : D) : sigM Vs y = if y ∈ ringsOf Vs then some (sgF Vs y) else none := by
  by_cases h : y ∈ ringsOf Vs
  · obtain ⟨v, hv, hy⟩ := ring_mem.1 h
    rw [if_pos h, sgF, sigM_at hn hv hy]
    rfl
  · rw [if_neg h, sigM_no hn h]
theorem nxtR_mem {R : List D} {y : D} (hy : y ∈ R) : nxtR R y ∈ R := by
  have hl := List.length_pos_of_mem hy
  have : (R.idxOf y + 1) % R.length < R.length := Nat.mod_lt _ hl
  rw [nxtR, List.getD_eq_getElem?_getD, List.getElem?_eq_getElem this]
  exact List.getElem_mem _
theorem nxtR_inj {R : List D} (hn : R.Nodup) {x y : D} (hx : x ∈ R) (hy : y ∈ R) (e : nxtR R x = nxtR R y) : x = y := by
  have hl := List.length_pos_of_mem hx
  have h1 : (R.idxOf x + 1) % R.length < R.length := Nat.mod_lt _ hl
  have h2 : (R.idxOf y + 1) % R.length < R.length := Nat.mod_lt _ hl
  unfold nxtR at e
  rw [List.getD_eq_getElem?_getD, List.getD_eq_getElem?_getD, List.getElem?_eq_getElem h1, List.getElem?_eq_getElem h2] at e
  have e1 : (R.idxOf x + 1) % R.length = (R.idxOf y + 1) % R.length := (List.getElem_inj hn).1 e
  have i1 := List.idxOf_lt_length_of_mem hx
  have i2 := List.idxOf_lt_length_of_mem hy
  have e2 : R.idxOf x = R.idxOf y := by
    by_cases q1 : R.idxOf x + 1 = R.length
    · rw [q1, Nat.mod_self] at e1
      by_cases q2 : R.idxOf y + 1 = R.length
      · omega
      · rw [Nat.mod_eq_of_lt (show R.idxOf y + 1 < R.length by omega)] at e1
        omega
    · rw [Nat.mod_eq_of_lt (show R.idxOf x + 1 < R.length by omega)] at e1
      by_cases q2 : R.idxOf y + 1 = R.length
      · rw [q2, Nat.mod_self] at e1
        omega
      · rw [Nat.mod_eq_of_lt (show R.idxOf y + 1 < R.length by omega)] at e1
        omega
  have g1 : R[R.idxOf x]'i1 = x := List.getElem_idxOf i1
  have g2 : R[R.idxOf y]'i2 = y := List.getElem_idxOf i2
  rw [← g1, ← g2]
  exact (List.getElem_inj hn).2 e2
theorem sig_pm (hn : (ringsOf Vs).Nodup) : Pm (sgF Vs) (ringsOf Vs) := by
  have key : ∀ {v : VC}, v ∈ Vs → ∀ {x : D}, x ∈ v.2.1.2.2.2 → ∀ {u : VC}, u ∈ Vs → x ∈ u.2.1.2.2.2 → u.2.1.2.2.2 = v.2.1.2.2.2 := by
    intro v hv x hx u hu hx2
    have e1 := sigM_at hn hv hx
    clear e1
    revert hv hu
    generalize Vs = Ws at hn
    induction Ws with
    | nil => intro h; cases h
    | cons z r ih =>
      intro h1 h2
      rw [ringsOf_cons, List.nodup_append] at hn
      rcases List.mem_cons.1 h1 with e1 | k1
      · rcases List.mem_cons.1 h2 with e2 | k2
        · rw [e1, e2]
        · exact (hn.2.2 x (e1 ▸ hx) x (List.mem_flatMap.2 ⟨u, k2, hx2⟩) rfl).elim
      · rcases List.mem_cons.1 h2 with e2 | k2
        · exact (hn.2.2 x (e2 ▸ hx2) x (List.mem_flatMap.2 ⟨v, k1, hx⟩) rfl).elim
        · exact ih hn.2.1 k1 k2
  refine ⟨hn, fun x hx => ?_, fun x hx y hy e => ?_⟩
  · obtain ⟨v, hv, hx⟩ := ring_mem.1 hx
    rw [sgF_at hn hv hx]
    exact ring_mem.2 ⟨v, hv, nxtR_mem hx⟩
  · obtain ⟨v, hv, hx⟩ := ring_mem.1 hx
    obtain ⟨u, hu, hy⟩ := ring_mem.1 hy
    rw [sgF_at hn hv hx, sgF_at hn hu hy] at e
    have h1 := nxtR_mem hx
    have h2 := nxtR_mem hy
    have e2 := key hv h1 hu (e ▸ h2)
    rw [e2] at e hy
    exact nxtR_inj (ring_nodup hn hv) hx hy e
theorem oth_oth (d : D) : othD (othD d) = d := by
  obtain ⟨a, b, c⟩ := d
  show (a, b, 1 - (1 - c)) = (a, b, c)
  rw [show (1 : Int) - (1 - c) = c by omega]
theorem Formed.mem (h : Formed Vs Es) (d : D) : d ∈ ringsOf Vs ↔ ∃ e ∈ Es, e.1 = (d.1, d.2.1) ∧ (d.2.2 = 0 ∨ d.2.2 = 1) := by
  rw [h.pm.mem_iff, edS_mem]
  constructor
  · rintro (q | ⟨e, he, rfl | rfl⟩)
    · cases q
    · exact ⟨e, he, rfl, .inl rfl⟩
    · exact ⟨e, he, rfl, .inr rfl⟩
  · rintro ⟨e, he, e1, q⟩
    obtain ⟨a, b, c⟩ := d
    refine .inr ⟨e, he, ?_⟩
    simp only at e1 q
    rcases q with rfl | rfl
    · exact .inl (by rw [e1])
    · exact .inr (by rw [e1])
theorem Formed.oth (h : Formed Vs Es) {d : D} (hd : d ∈ ringsOf Vs) : othD d ∈ ringsOf Vs := by
  obtain ⟨e, he, e1, q⟩ := (h.mem d).1 hd
  exact (h.mem _).2 ⟨e, he, e1, by show 1 - d.2.2 = 0 ∨ 1 - d.2.2 = 1; omega⟩
theorem Formed.ohs (h : Formed Vs Es) (d : D) : othD d ∈ ringsOf Vs ↔ d ∈ ringsOf Vs := ⟨fun q => oth_oth d ▸ h.oth q, h.oth⟩
theorem Formed.phi (h : Formed Vs Es) : Pm (phF Vs) (ringsOf Vs) :=
  ⟨h.once, fun x hx => (sig_pm h.once).cl _ (h.oth hx), fun x hx y hy e => by
    have := (sig_pm h.once).inj _ (h.oth hx) _ (h.oth hy) e
    rw [← oth_oth x, this, oth_oth]⟩
theorem Formed.wfS (h : Formed Vs Es) (hg : GoodD Vs Es) {d : D} (hd : d ∈ ringsOf Vs) : wfS d := by
  obtain ⟨v, hv, hr⟩ := ring_mem.1 hd
  obtain ⟨e, he, e1, q⟩ := (h.mem d).1 hd
  exact ⟨hg.v v hv d hr, by omega, by omega⟩
theorem Formed.l80 (h : Formed Vs Es) : (ringsOf Vs).length ≤ 80 := by rw [h.len]; have := h.e40; omega
theorem trG_orb (h : Formed Vs Es) (x : D) : ∀ (k : Nat) (y : D), y ∈ ringsOf Vs → trG (sigM Vs) x k y = orbT (phF Vs) x k y
  | 0, _, _ => rfl
  | k + 1, y, hy => by
    have hz := h.phi.cl y hy
    rw [trG, orbT, sigM_eq h.once, if_pos (h.oth hy)]
    show y :: (if phF Vs y = x then [] else trG (sigM Vs) x k (phF Vs y)) = _
    rw [trG_orb h x k _ hz]
/-- The face of any dart: none, if it is not there. -/
def faceD (Vs : List VC) (x : D) : List D := if x ∈ ringsOf Vs then orbT (phF Vs) x 80 x else []
theorem faceL_eq (h : Formed Vs Es) {N : Nat} (hN : (ringsOf Vs).length ≤ N) (x : D) : faceL (sigM Vs) N x = faceD Vs x := by
  rw [faceL, faceD, sigM_eq h.once]
  by_cases hx : x ∈ ringsOf Vs
  · rw [if_pos hx, if_pos hx]
    obtain ⟨p, hp, hpl⟩ := h.phi.per hx
    have := h.l80
    rw [trG_orb h x N x hx, orbT_all hp (by omega), orbT_all hp (by omega)]
    rfl
  · rw [if_neg hx, if_neg hx]
    rfl
theorem faceD_mem (h : Formed Vs Es) (x y : D) : y ∈ faceD Vs x ↔ x ∈ ringsOf Vs ∧ Rl (phF Vs) x y := by
  rw [faceD]
  by_cases hx : x ∈ ringsOf Vs
  · obtain ⟨p, hp, hpl⟩ := h.phi.per hx
    have := h.l80
    rw [if_pos hx, orbT_all hp (by omega), orb_mem hp]
    exact ⟨fun q => ⟨hx, q⟩, fun q => q.2⟩
  · rw [if_neg hx]
    exact ⟨fun q => (by cases q), fun q => (hx q.1).elim⟩
theorem faceD_symm (h : Formed Vs Es) (x y : D) : y ∈ faceD Vs x ↔ x ∈ faceD Vs y := by
  rw [faceD_mem h, faceD_mem h]
  exact ⟨fun q => ⟨q.2.mem h.phi q.1, q.2.symm h.phi q.1⟩, fun q => ⟨q.2.mem h.phi q.1, q.2.symm h.phi q.1⟩⟩
theorem faceD_len (h : Formed Vs Es) (x : D) : (faceD Vs x).length ≤ 80 := by
  rw [faceD]
  by_cases hx : x ∈ ringsOf Vs
  · obtain ⟨p, hp, hpl⟩ := h.phi.per hx
    have := h.l80
    rw [if_pos hx, orbT_all hp (by omega), orb_len]
    omega
  · rw [if_neg hx]
    exact Nat.zero_le _
theorem KeysD.formed {S : List D} (h : Formed Vs Es) (hg : GoodD Vs Es) (k : KeysD (sigM Vs) S) : S.length = (ringsOf Vs).length := by
  have hm : ∀ x, x ∈ S ↔ x ∈ ringsOf Vs := fun x => by
    constructor
    · intro hx
      have h1 := (k.2.2 x (k.2.1 x hx)).1 hx
      rw [sigM_eq h.once] at h1
      by_cases q : x ∈ ringsOf Vs
      · exact q
      · rw [if_neg q] at h1; cases h1
    · intro hx
      refine (k.2.2 x (h.wfS hg hx).1).2 ?_
      rw [sigM_eq h.once, if_pos hx]
      rfl
  exact Nat.le_antisymm (nd_le k.1 fun x hx => (hm x).1 hx) (nd_le h.once fun x hx => (hm x).2 hx)
end
end Go.Proofs.Ytpindjknngcccaa
