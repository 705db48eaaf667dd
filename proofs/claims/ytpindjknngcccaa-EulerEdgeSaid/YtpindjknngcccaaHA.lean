/- Several texts in one. -/
import Derived.Test.YtpindjknngcccaaGN
import Derived.Test.YtpindjknngcccaaFc4
import Derived.Test.YtpindjknngcccaaCm13n

/- The next dart round a vertex and round a face, as functions that are one to one on the darts of a diagram that is well formed. -/
namespace Go.Proofs.Ytpindjknngcccaa
open Go.RowKit
set_option linter.unusedSimpArgs false
set_option linter.unusedVariables false

theorem nxR_get {R : List D} (hn : R.Nodup) (f : D → Option D) : ∀ k, k ≤ R.length → ∀ y, nxR R k f y = if y ∈ R.take k then some (R.getD ((R.idxOf y + 1) % R.length) (0, 0, 0)) else f y
  | 0, _, y => by simp [nxR]
  | k + 1, hk, y => by
    have hk' : k < R.length := by omega
    have e : R.take (k + 1) = R.take k ++ [R.getD k (0, 0, 0)] := by
      rw [List.take_succ_eq_append_getElem hk', List.getD_eq_getElem?_getD, List.getElem?_eq_getElem hk']
      rfl
    have ei : R.idxOf (R.getD k (0, 0, 0)) = k := by
      rw [List.getD_eq_getElem?_getD, List.getElem?_eq_getElem hk']
      exact hn.idxOf_getElem k hk'
    rw [nxR]
    show (if y = R.getD k (0, 0, 0) then some (R.getD ((k + 1) % R.length) (0, 0, 0)) else nxR R k f y) = _
    rw [nxR_get hn f k (by omega) y, e]
    by_cases q : y = R.getD k (0, 0, 0)
    · rw [if_pos q, if_pos (List.mem_append.2 (.inr (List.mem_singleton.2 q))), q, ei]
    · rw [if_neg q]
      by_cases q2 : y ∈ R.take k
      · rw [if_pos q2, if_pos (List.mem_append.2 (.inl q2))]
      · rw [if_neg q2, if_neg (fun h => (List.mem_append.1 h).elim q2 (fun h => q (List.mem_singleton.1 h)))]
/-- The next one round its ring, of a dart that is there. -/
def nxtR (R : List D) (y : D) : D := R.getD ((R.idxOf y + 1) % R.length) (0, 0, 0)
theorem nxV_get : ∀ (Vs : List VC) (f : D → Option D), (ringsOf Vs).Nodup → (∀ y, y ∉ ringsOf Vs → nxV Vs f y = f y) ∧ ∀ v ∈ Vs, ∀ y ∈ v.2.1.2.2.2, nxV Vs f y = some (nxtR v.2.1.2.2.2 y)
  | [], f, _ => ⟨fun _ _ => rfl, by simp⟩
  | v :: r, f, hn => by
    have hn0 := hn
    rw [ringsOf_cons, List.nodup_append] at hn
    obtain ⟨h1, h2⟩ := nxV_get r (nxR v.2.1.2.2.2 v.2.1.2.2.2.length f) hn.2.1
    have hg := fun y => nxR_get hn.1 f v.2.1.2.2.2.length (Nat.le_refl _) y
    rw [List.take_length] at hg
    constructor
    · intro y hy
      rw [ringsOf_cons, List.mem_append, not_or] at hy
      rw [nxV, h1 y hy.2, hg, if_neg hy.1]
    · intro u hu y hy
      rcases List.mem_cons.1 hu with rfl | hu
      · have hy2 : y ∉ ringsOf r := fun q => hn.2.2 y hy y q rfl
        rw [nxV, h1 y hy2, hg, if_pos hy]
        rfl
      · rw [nxV]
        exact h2 u hu y hy
section
variable {Vs : List VC} {Es : List EC}
theorem sigM_at (hn : (ringsOf Vs).Nodup) {v : VC} (hv : v ∈ Vs) {y : D} (hy : y ∈ v.2.1.2.2.2) : sigM Vs y = some (nxtR v.2.1.2.2.2 y) := (nxV_get Vs _ hn).2 v hv y hy
theorem sigM_no (hn : (ringsOf Vs).Nodup) {y : D} (hy : y ∉ ringsOf Vs) : sigM Vs y = none := (nxV_get Vs _ hn).1 y hy
theorem ring_mem {y : D} : y ∈ ringsOf Vs ↔ ∃ v ∈ Vs, y ∈ v.2.1.2.2.2 := List.mem_flatMap
/-- The next dart round its vertex; and round its face. -/
def sgF (Vs : List VC) (y : D) : D := (sigM Vs y).getD (0, 0, 0)
def phF (Vs : List VC) (y : D) : D := sgF Vs (othD y)
theorem sgF_at (hn : (ringsOf Vs).Nodup) {v : VC} (hv : v ∈ Vs) {y : D} (hy : y ∈ v.2.1.2.2.2) : sgF Vs y = nxtR v.2.1.2.2.2 y := by rw [sgF, sigM_at hn hv hy]; rfl
theorem sigM_eq (hn : (ringsOf Vs).Nodup) (y : D) : sigM Vs y = if y ∈ ringsOf Vs then some (sgF Vs y) else none := by
  by_cases h : y ∈ ringsOf Vs
  · obtain ⟨v, hv, hy⟩ := ring_mem.1 h
    rw [if_pos h, sgF, sigM_at hn hv hy]
    rfl
  · rw [if_neg h, sigM_no hn h]
theorem nxtR_mem {R : List D} {y : D} (hy : y ∈ R) : nxtR R y ∈ R := by
  have hl := List.length_pos_of_mem hy
  have : (R.idxOf y + 1) % R.length < R.length := Nat.mod_lt _ hl
  rw [nxtR, List.getD_eq_getElem?_getD, List.getElem?_eq_getElem this]
  exact List.getElem_mem _
theorem nxtR_inj {R : List D} (hn : R.Nodup) {x y : D} (hx : x ∈ R) (hy : y ∈ R) (e : nxtR R x = nxtR R y) : x = y := by
  have hl := List.length_pos_of_mem hx
  have h1 : (R.idxOf x + 1) % R.length < R.length := Nat.mod_lt _ hl
  have h2 : (R.idxOf y + 1) % R.length < R.length := Nat.mod_lt _ hl
  unfold nxtR at e
  rw [List.getD_eq_getElem?_getD, List.getD_eq_getElem?_getD, List.getElem?_eq_getElem h1, List.getElem?_eq_getElem h2] at e
  have e1 : (R.idxOf x + 1) % R.length = (R.idxOf y + 1) % R.length := (List.getElem_inj hn).1 e
  have i1 := List.idxOf_lt_length_of_mem hx
  have i2 := List.idxOf_lt_length_of_mem hy
  have e2 : R.idxOf x = R.idxOf y := by
    by_cases q1 : R.idxOf x + 1 = R.length
    · rw [q1, Nat.mod_self] at e1
      by_cases q2 : R.idxOf y + 1 = R.length
      · omega
      · rw [Nat.mod_eq_of_lt (show R.idxOf y + 1 < R.length by omega)] at e1
        omega
    · rw [Nat.mod_eq_of_lt (show R.idxOf x + 1 < R.length by omega)] at e1
      by_cases q2 : R.idxOf y + 1 = R.length
      · rw [q2, Nat.mod_self] at e1
        omega
      · rw [Nat.mod_eq_of_lt (show R.idxOf y + 1 < R.length by omega)] at e1
        omega
  have g1 : R[R.idxOf x]'i1 = x := List.getElem_idxOf i1
  have g2 : R[R.idxOf y]'i2 = y := List.getElem_idxOf i2
  rw [← g1, ← g2]
  exact (List.getElem_inj hn).2 e2
theorem sig_pm (hn : (ringsOf Vs).Nodup) : Pm (sgF Vs) (ringsOf Vs) := by
  have key : ∀ {v : VC}, v ∈ Vs → ∀ {x : D}, x ∈ v.2.1.2.2.2 → ∀ {u : VC}, u ∈ Vs → x ∈ u.2.1.2.2.2 → u.2.1.2.2.2 = v.2.1.2.2.2 := by
    intro v hv x hx u hu hx2
    have e1 := sigM_at hn hv hx
    clear e1
    revert hv hu
    generalize Vs = Ws at hn
    induction Ws with
    | nil => intro h; cases h
    | cons z r ih =>
      intro h1 h2
      rw [ringsOf_cons, List.nodup_append] at hn
      rcases List.mem_cons.1 h1 with e1 | k1
      · rcases List.mem_cons.1 h2 with e2 | k2
        · rw [e1, e2]
        · exact (hn.2.2 x (e1 ▸ hx) x (List.mem_flatMap.2 ⟨u, k2, hx2⟩) rfl).elim
      · rcases List.mem_cons.1 h2 with e2 | k2
        · exact (hn.2.2 x (e2 ▸ hx2) x (List.mem_flatMap.2 ⟨v, k1, hx⟩) rfl).elim
        · exact ih hn.2.1 k1 k2
  refine ⟨hn, fun x hx => ?_, fun x hx y hy e => ?_⟩
  · obtain ⟨v, hv, hx⟩ := ring_mem.1 hx
    rw [sgF_at hn hv hx]
    exact ring_mem.2 ⟨v, hv, nxtR_mem hx⟩
  · obtain ⟨v, hv, hx⟩ := ring_mem.1 hx
    obtain ⟨u, hu, hy⟩ := ring_mem.1 hy
    rw [sgF_at hn hv hx, sgF_at hn hu hy] at e
    have h1 := nxtR_mem hx
    have h2 := nxtR_mem hy
    have e2 := key hv h1 hu (e ▸ h2)
    rw [e2] at e hy
    exact nxtR_inj (ring_nodup hn hv) hx hy e
theorem oth_oth (d : D) : othD (othD d) = d := by
  obtain ⟨a, b, c⟩ := d
  show (a, b, 1 - (1 - c)) = (a, b, c)
  rw [show (1 : Int) - (1 - c) = c by omega]
theorem Formed.mem (h : Formed Vs Es) (d : D) : d ∈ ringsOf Vs ↔ ∃ e ∈ Es, e.1 = (d.1, d.2.1) ∧ (d.2.2 = 0 ∨ d.2.2 = 1) := by
  rw [h.pm.mem_iff, edS_mem]
  constructor
  · rintro (q | ⟨e, he, rfl | rfl⟩)
    · cases q
    · exact ⟨e, he, rfl, .inl rfl⟩
    · exact ⟨e, he, rfl, .inr rfl⟩
  · rintro ⟨e, he, e1, q⟩
    obtain ⟨a, b, c⟩ := d
    refine .inr ⟨e, he, ?_⟩
    simp only at e1 q
    rcases q with rfl | rfl
    · exact .inl (by rw [e1])
    · exact .inr (by rw [e1])
theorem Formed.oth (h : Formed Vs Es) {d : D} (hd : d ∈ ringsOf Vs) : othD d ∈ ringsOf Vs := by
  obtain ⟨e, he, e1, q⟩ := (h.mem d).1 hd
  exact (h.mem _).2 ⟨e, he, e1, by show 1 - d.2.2 = 0 ∨ 1 - d.2.2 = 1; omega⟩
theorem Formed.ohs (h : Formed Vs Es) (d : D) : othD d ∈ ringsOf Vs ↔ d ∈ ringsOf Vs := ⟨fun q => oth_oth d ▸ h.oth q, h.oth⟩
theorem Formed.phi (h : Formed Vs Es) : Pm (phF Vs) (ringsOf Vs) :=
  ⟨h.once, fun x hx => (sig_pm h.once).cl _ (h.oth hx), fun x hx y hy e => by
    have := (sig_pm h.once).inj _ (h.oth hx) _ (h.oth hy) e
    rw [← oth_oth x, this, oth_oth]⟩
theorem Formed.wfS (h : Formed Vs Es) (hg : GoodD Vs Es) {d : D} (hd : d ∈ ringsOf Vs) : wfS d := by
  obtain ⟨v, hv, hr⟩ := ring_mem.1 hd
  obtain ⟨e, he, e1, q⟩ := (h.mem d).1 hd
  exact ⟨hg.v v hv d hr, by omega, by omega⟩
theorem Formed.l80 (h : Formed Vs Es) : (ringsOf Vs).length ≤ 80 := by rw [h.len]; have := h.e40; omega
theorem trG_orb (h : Formed Vs Es) (x : D) : ∀ (k : Nat) (y : D), y ∈ ringsOf Vs → trG (sigM Vs) x k y = orbT (phF Vs) x k y
  | 0, _, _ => rfl
  | k + 1, y, hy => by
    have hz := h.phi.cl y hy
    rw [trG, orbT, sigM_eq h.once, if_pos (h.oth hy)]
    show y :: (if phF Vs y = x then [] else trG (sigM Vs) x k (phF Vs y)) = _
    rw [trG_orb h x k _ hz]
/-- The face of any dart: none, if it is not there. -/
def faceD (Vs : List VC) (x : D) : List D := if x ∈ ringsOf Vs then orbT (phF Vs) x 80 x else []
theorem faceL_eq (h : Formed Vs Es) {N : Nat} (hN : (ringsOf Vs).length ≤ N) (x : D) : faceL (sigM Vs) N x = faceD Vs x := by
  rw [faceL, faceD, sigM_eq h.once]
  by_cases hx : x ∈ ringsOf Vs
  · rw [if_pos hx, if_pos hx]
    obtain ⟨p, hp, hpl⟩ := h.phi.per hx
    have := h.l80
    rw [trG_orb h x N x hx, orbT_all hp (by omega), orbT_all hp (by omega)]
    rfl
  · rw [if_neg hx, if_neg hx]
    rfl
theorem faceD_mem (h : Formed Vs Es) (x y : D) : y ∈ faceD Vs x ↔ x ∈ ringsOf Vs ∧ Rl (phF Vs) x y := by
  rw [faceD]
  by_cases hx : x ∈ ringsOf Vs
  · obtain ⟨p, hp, hpl⟩ := h.phi.per hx
    have := h.l80
    rw [if_pos hx, orbT_all hp (by omega), orb_mem hp]
    exact ⟨fun q => ⟨hx, q⟩, fun q => q.2⟩
  · rw [if_neg hx]
    exact ⟨fun q => (by cases q), fun q => (hx q.1).elim⟩
theorem faceD_len (h : Formed Vs Es) (x : D) : (faceD Vs x).length ≤ 80 := by
  rw [faceD]
  by_cases hx : x ∈ ringsOf Vs
  · obtain ⟨p, hp, hpl⟩ := h.phi.per hx
    have := h.l80
    rw [if_pos hx, orbT_all hp (by omega), orb_len]
    omega
  · rw [if_neg hx]
    exact Nat.zero_le _
theorem KeysD.formed {S : List D} (h : Formed Vs Es) (hg : GoodD Vs Es) (k : KeysD (sigM Vs) S) : S.length = (ringsOf Vs).length := by
  have hm : ∀ x, x ∈ S ↔ x ∈ ringsOf Vs := fun x => by
    constructor
    · intro hx
      have h1 := (k.2.2 x (k.2.1 x hx)).1 hx
      rw [sigM_eq h.once] at h1
      by_cases q : x ∈ ringsOf Vs
      · exact q
      · rw [if_neg q] at h1; cases h1
    · intro hx
      refine (k.2.2 x (h.wfS hg hx).1).2 ?_
      rw [sigM_eq h.once, if_pos hx]
      rfl
  exact Nat.le_antisymm (nd_le k.1 fun x hx => (hm x).1 hx) (nd_le h.once fun x hx => (hm x).2 hx)
end
end Go.Proofs.Ytpindjknngcccaa

/- The darts of edges. -/
namespace Go.Proofs.Ytpindjknngcccaa
open Go.RowKit
set_option linter.unusedSimpArgs false
set_option linter.unusedVariables false

/-- The darts of edges, edge by edge. -/
def dsE (L : List EC) : List D := L.flatMap fun e => [(e.1.1, e.1.2, 0), (e.1.1, e.1.2, 1)]
theorem dsE_cons (e : EC) (L : List EC) : dsE (e :: L) = (e.1.1, e.1.2, 0) :: (e.1.1, e.1.2, 1) :: dsE L := rfl
theorem dsE_mem (L : List EC) (d : D) : d ∈ dsE L ↔ ∃ e ∈ L, e.1 = (d.1, d.2.1) ∧ (d.2.2 = 0 ∨ d.2.2 = 1) := by
  obtain ⟨a, b, c⟩ := d
  unfold dsE
  rw [List.mem_flatMap]
  constructor
  · rintro ⟨e, he, h⟩
    refine ⟨e, he, ?_⟩
    simp only [List.mem_cons, Prod.mk.injEq, List.mem_nil_iff, or_false] at h
    rcases h with ⟨rfl, rfl, rfl⟩ | ⟨rfl, rfl, rfl⟩
    · exact ⟨rfl, .inl rfl⟩
    · exact ⟨rfl, .inr rfl⟩
  · rintro ⟨e, he, h1, h2⟩
    refine ⟨e, he, ?_⟩
    simp only [List.mem_cons, Prod.mk.injEq, List.mem_nil_iff, or_false]
    simp only at h1 h2
    rw [h1]
    rcases h2 with rfl | rfl
    · exact .inl ⟨rfl, rfl, rfl⟩
    · exact .inr ⟨rfl, rfl, rfl⟩
theorem Formed.ds {Vs : List VC} {Es : List EC} (h : Formed Vs Es) (d : D) : d ∈ dsE Es ↔ d ∈ ringsOf Vs := by rw [dsE_mem, h.mem]
end Go.Proofs.Ytpindjknngcccaa

/- Vertices, edges, faces and parts: edge by edge, each makes of one face two, or of two one. -/
namespace Go.Proofs.Ytpindjknngcccaa
open Go.RowKit
set_option linter.unusedSimpArgs false
set_option linter.unusedVariables false

theorem itN_congr {α : Type} {f g : α → α} {L : List α} (h : Pm f L) (e : ∀ x ∈ L, f x = g x) {x : α} (hx : x ∈ L) : ∀ k, itN f k x = itN g k x
  | 0 => rfl
  | k + 1 => by rw [it_succ, it_succ, ← itN_congr h e hx k, e _ (h.it hx k)]
theorem Rl_congr {α : Type} {f g : α → α} {L : List α} (h : Pm f L) (e : ∀ x ∈ L, f x = g x) {x : α} (hx : x ∈ L) (y : α) : Rl f x y ↔ Rl g x y :=
  ⟨fun ⟨i, q⟩ => ⟨i, (itN_congr h e hx i).symm.trans q⟩, fun ⟨i, q⟩ => ⟨i, (itN_congr h e hx i).trans q⟩⟩
theorem Reps.congr {α : Type} {f g : α → α} {L P : List α} (h : Pm f L) (e : ∀ x ∈ L, f x = g x) (hP : Reps f L P) : Reps g L P :=
  ⟨hP.nd, hP.sub, fun x hx => by
    obtain ⟨p, hp, r⟩ := hP.all x hx
    exact ⟨p, hp, (Rl_congr h e (hP.sub p hp) x).1 r⟩, fun p hp q hq r => hP.one p hp q hq ((Rl_congr h e (hP.sub p hp) q).2 r)⟩
/-- The other side, if the edge is one of those; and the next dart then. -/
def alF (l : List I2) (d : D) : D := if (d.1, d.2.1) ∈ l then othD d else d
def fkF (Vs : List VC) (l : List I2) (d : D) : D := sgF Vs (alF l d)
theorem alF_alF (l : List I2) (d : D) : alF l (alF l d) = d := by
  by_cases q : (d.1, d.2.1) ∈ l
  · have e : alF l d = othD d := if_pos q
    rw [e]
    have e2 : alF l (othD d) = othD (othD d) := if_pos q
    rw [e2, oth_oth]
  · have e : alF l d = d := if_neg q
    rw [e, e]
/-- The place of the vertex round which a dart stands. -/
def plD (Vs : List VC) (d : D) : Nat := Vs.findIdx fun v => decide (d ∈ v.2.1.2.2.2)
def aloneN (Vs : List VC) : Nat := (Vs.filter fun v => decide (v.2.1.2.2.2 = [])).length
def peF (Vs : List VC) (e : EC) : Nat × Nat := (plD Vs (e.1.1, e.1.2, 0), plD Vs (e.1.1, e.1.2, 1))
def lbK (Vs : List VC) (Es : List EC) (k : Nat) : List Int := joins ((Es.take k).map (peF Vs)) (upN Vs.length)
section
variable {Vs : List VC} {Es : List EC}
theorem plD_at {d : D} (hd : d ∈ ringsOf Vs) : ∃ v, Vs[plD Vs d]? = some v ∧ d ∈ v.2.1.2.2.2 := by
  obtain ⟨v, hv, hr⟩ := ring_mem.1 hd
  have hl : plD Vs d < Vs.length := List.findIdx_lt_length_of_exists ⟨v, hv, decide_eq_true hr⟩
  exact ⟨Vs[plD Vs d], List.getElem?_eq_getElem hl, of_decide_eq_true (List.findIdx_getElem (xs := Vs) (p := fun v : VC => decide (d ∈ v.2.1.2.2.2)) (w := hl))⟩
theorem plD_lt {d : D} (hd : d ∈ ringsOf Vs) : plD Vs d < Vs.length := by
  obtain ⟨v, hv, _⟩ := plD_at hd
  exact (List.getElem?_eq_some_iff.1 hv).1
theorem one_ring : ∀ {Vs : List VC}, (ringsOf Vs).Nodup → ∀ {i k : Nat} {u v : VC} {d : D}, Vs[i]? = some u → Vs[k]? = some v → d ∈ u.2.1.2.2.2 → d ∈ v.2.1.2.2.2 → i = k
  | [], _, i, k, u, v, d, hu, _, _, _ => by simp at hu
  | x :: r, hn, i, k, u, v, d, hu, hv, h1, h2 => by
    rw [ringsOf_cons, List.nodup_append] at hn
    cases i with
    | zero =>
      cases k with
      | zero => rfl
      | succ k =>
        have e : x = u := by simpa using hu
        have hv2 : r[k]? = some v := by simpa using hv
        exact (hn.2.2 d (e ▸ h1) d (ring_mem.2 ⟨v, List.mem_of_getElem? hv2, h2⟩) rfl).elim
    | succ i =>
      have hu2 : r[i]? = some u := by simpa using hu
      cases k with
      | zero =>
        have e : x = v := by simpa using hv
        exact (hn.2.2 d (e ▸ h2) d (ring_mem.2 ⟨u, List.mem_of_getElem? hu2, h1⟩) rfl).elim
      | succ k =>
        have hv2 : r[k]? = some v := by simpa using hv
        rw [one_ring hn.2.1 hu2 hv2 h1 h2]
theorem plD_eq (hn : (ringsOf Vs).Nodup) {i : Nat} {v : VC} {d : D} (hv : Vs[i]? = some v) (hd : d ∈ v.2.1.2.2.2) : plD Vs d = i := by
  obtain ⟨u, hu, h2⟩ := plD_at (ring_mem.2 ⟨v, List.mem_of_getElem? hv, hd⟩)
  exact one_ring hn hu hv h2 hd
theorem plD_sg (hn : (ringsOf Vs).Nodup) {d : D} (hd : d ∈ ringsOf Vs) : plD Vs (sgF Vs d) = plD Vs d := by
  obtain ⟨v, hv, hr⟩ := plD_at hd
  refine plD_eq hn hv ?_
  rw [sgF_at hn (List.mem_of_getElem? hv) hr]
  exact nxtR_mem hr
theorem alF_mem (h : Formed Vs Es) (l : List I2) {d : D} (hd : d ∈ ringsOf Vs) : alF l d ∈ ringsOf Vs := by
  unfold alF
  split
  · exact h.oth hd
  · exact hd
theorem fk_pm (h : Formed Vs Es) (l : List I2) : Pm (fkF Vs l) (ringsOf Vs) :=
  ⟨h.once, fun x hx => (sig_pm h.once).cl _ (alF_mem h l hx), fun x hx y hy e => by
    have := (sig_pm h.once).inj _ (alF_mem h l hx) _ (alF_mem h l hy) e
    rw [← alF_alF l x, this, alF_alF]⟩
theorem fk_all (h : Formed Vs Es) {d : D} (hd : d ∈ ringsOf Vs) : fkF Vs (Es.map (·.1)) d = phF Vs d := by
  obtain ⟨e, he, e1, _⟩ := (h.mem d).1 hd
  have : alF (Es.map (·.1)) d = othD d := if_pos (List.mem_map.2 ⟨e, he, e1⟩)
  rw [fkF, this]
  rfl
/-- Each edge's darts stand somewhere. -/
theorem Formed.ends (h : Formed Vs Es) {e : EC} (he : e ∈ Es) : (e.1.1, e.1.2, (0 : Int)) ∈ ringsOf Vs ∧ (e.1.1, e.1.2, (1 : Int)) ∈ ringsOf Vs :=
  ⟨(h.mem _).2 ⟨e, he, rfl, .inl rfl⟩, (h.mem _).2 ⟨e, he, rfl, .inr rfl⟩⟩
theorem pairs_lt (h : Formed Vs Es) (k : Nat) : ∀ e ∈ (Es.take k).map (peF Vs), e.1 < Vs.length ∧ e.2 < Vs.length := fun p hp => by
  obtain ⟨e, he, rfl⟩ := List.mem_map.1 hp
  obtain ⟨h1, h2⟩ := h.ends (List.mem_of_mem_take he)
  exact ⟨plD_lt h1, plD_lt h2⟩
theorem lbK_lab (h : Formed Vs Es) (k : Nat) : Lab Vs.length (fun i j => False ∨ (i, j) ∈ (Es.take k).map (peF Vs)) (lbK Vs Es k) := joins_lab _ _ _ (pairs_lt h k) (Lab.up Vs.length)
/-- Darts of one face are of one part. -/
theorem lbK_step (h : Formed Vs Es) (k : Nat) {d : D} (hd : d ∈ ringsOf Vs) : (lbK Vs Es k).getD (plD Vs (fkF Vs ((Es.take k).map (·.1)) d)) 0 = (lbK Vs Es k).getD (plD Vs d) 0 := by
  rw [fkF, plD_sg h.once (alF_mem h _ hd)]
  unfold alF
  split
  · rename_i q
    obtain ⟨e, he, e1⟩ := List.mem_map.1 q
    have hm : peF Vs e ∈ (Es.take k).map (peF Vs) := List.mem_map.2 ⟨e, he, rfl⟩
    obtain ⟨h1, h2⟩ := pairs_lt h k _ hm
    have hc := (lbK_lab h k).co (peF Vs e).1 (peF Vs e).2 h1 h2 (.inr hm)
    obtain ⟨_, _, _, hs⟩ := (h.mem d).1 hd
    obtain ⟨a, b, c⟩ := d
    simp only at hs e1
    have ea : (peF Vs e).1 = plD Vs (a, b, 0) := by show plD Vs (e.1.1, e.1.2, 0) = _; rw [e1]
    have eb : (peF Vs e).2 = plD Vs (a, b, 1) := by show plD Vs (e.1.1, e.1.2, 1) = _; rw [e1]
    simp only [ea, eb] at hc
    rcases hs with rfl | rfl
    · exact hc.symm
    · exact hc
  · rfl
theorem lbK_face (h : Formed Vs Es) (k : Nat) {x y : D} (hx : x ∈ ringsOf Vs) (r : Rl (fkF Vs ((Es.take k).map (·.1))) x y) : (lbK Vs Es k).getD (plD Vs y) 0 = (lbK Vs Es k).getD (plD Vs x) 0 := by
  obtain ⟨i, rfl⟩ := r
  induction i with
  | zero => rfl
  | succ i ih => rw [it_succ, lbK_step h k ((fk_pm h _).it hx i), ih]
/-- Round a vertex: one orbit for each ring that holds a dart. -/
theorem ring_orb (hn : (ringsOf Vs).Nodup) {v : VC} (hv : v ∈ Vs) : ∀ i, i < v.2.1.2.2.2.length → itN (sgF Vs) i (v.2.1.2.2.2.getD 0 (0, 0, 0)) = v.2.1.2.2.2.getD i (0, 0, 0)
  | 0, _ => rfl
  | i + 1, hi => by
    have hm : v.2.1.2.2.2.getD i (0, 0, 0) ∈ v.2.1.2.2.2 := by
      rw [List.getD_eq_getElem?_getD, List.getElem?_eq_getElem (by omega)]
      exact List.getElem_mem _
    have hnr := ring_nodup hn hv
    rw [it_succ, ring_orb hn hv i (by omega), sgF_at hn hv hm]
    have e : v.2.1.2.2.2.getD i (0, 0, 0) = v.2.1.2.2.2[i]'(by omega) := by rw [List.getD_eq_getElem?_getD, List.getElem?_eq_getElem (by omega)]; rfl
    rw [nxtR, e, hnr.idxOf_getElem i (by omega), Nat.mod_eq_of_lt hi]
theorem sg_in (hn : (ringsOf Vs).Nodup) {v : VC} (hv : v ∈ Vs) {x y : D} (hx : x ∈ v.2.1.2.2.2) (r : Rl (sgF Vs) x y) : y ∈ v.2.1.2.2.2 := by
  obtain ⟨i, rfl⟩ := r
  induction i with
  | zero => exact hx
  | succ i ih =>
    rw [it_succ, sgF_at hn hv ih]
    exact nxtR_mem ih
def hdsF (Vs : List VC) : List D := (Vs.filter fun v => !decide (v.2.1.2.2.2 = [])).map fun v => v.2.1.2.2.2.getD 0 (0, 0, 0)
theorem hd_mem {v : VC} (hv : v.2.1.2.2.2 ≠ []) : v.2.1.2.2.2.getD 0 (0, 0, 0) ∈ v.2.1.2.2.2 := by
  cases hR : v.2.1.2.2.2 with
  | nil => exact absurd hR hv
  | cons a r => exact List.mem_cons_self ..
theorem sg_reps (hn : (ringsOf Vs).Nodup) : Reps (sgF Vs) (ringsOf Vs) (hdsF Vs) := by
  have hmem : ∀ {d}, d ∈ hdsF Vs → ∃ v ∈ Vs, v.2.1.2.2.2 ≠ [] ∧ v.2.1.2.2.2.getD 0 (0, 0, 0) = d := fun {d} hd => by
    obtain ⟨v, hv, rfl⟩ := List.mem_map.1 hd
    obtain ⟨h1, h2⟩ := List.mem_filter.1 hv
    exact ⟨v, h1, by simpa using h2, rfl⟩
  refine ⟨?_, fun p hp => ?_, fun x hx => ?_, fun p hp q hq r => ?_⟩
  · clear hmem
    induction Vs with
    | nil => exact List.nodup_nil
    | cons v r ih =>
      have hn0 := hn
      rw [ringsOf_cons, List.nodup_append] at hn
      unfold hdsF
      by_cases q : v.2.1.2.2.2 = []
      · rw [List.filter_cons, if_neg (by simp [q])]
        exact ih hn.2.1
      · rw [List.filter_cons, if_pos (by simp [q]), List.map_cons, List.nodup_cons]
        refine ⟨fun hm => ?_, ih hn.2.1⟩
        obtain ⟨u, hu, e⟩ := List.mem_map.1 hm
        obtain ⟨h1, h2⟩ := List.mem_filter.1 hu
        have hu0 : u.2.1.2.2.2 ≠ [] := by simpa using h2
        exact hn.2.2 _ (hd_mem q) _ (ring_mem.2 ⟨u, h1, hd_mem hu0⟩) e.symm
  · obtain ⟨v, hv, h0, rfl⟩ := hmem hp
    exact ring_mem.2 ⟨v, hv, hd_mem h0⟩
  · obtain ⟨v, hv, hr⟩ := ring_mem.1 hx
    have h0 : v.2.1.2.2.2 ≠ [] := fun e => by rw [e] at hr; cases hr
    refine ⟨_, List.mem_map.2 ⟨v, List.mem_filter.2 ⟨hv, by simp [h0]⟩, rfl⟩, ?_⟩
    obtain ⟨i, hi, e⟩ := List.getElem_of_mem hr
    exact ⟨i, by rw [ring_orb hn hv i hi, List.getD_eq_getElem?_getD, List.getElem?_eq_getElem hi]; exact e⟩
  · obtain ⟨v, hv, h0, rfl⟩ := hmem hp
    obtain ⟨u, hu, h1, rfl⟩ := hmem hq
    have h2 := sg_in hn hv (hd_mem h0) r
    obtain ⟨i, hi, ei⟩ := List.getElem_of_mem hv
    obtain ⟨k, hk, ek⟩ := List.getElem_of_mem hu
    have := one_ring hn (i := i) (k := k) (by rw [List.getElem?_eq_getElem hi, ei]) (by rw [List.getElem?_eq_getElem hk, ek]) h2 (hd_mem h1)
    subst this
    rw [← ei, ← ek]
theorem hds_len (Vs : List VC) : (hdsF Vs).length + aloneN Vs = Vs.length := by
  unfold hdsF aloneN
  rw [List.length_map]
  induction Vs with
  | nil => rfl
  | cons v r ih =>
    by_cases q : v.2.1.2.2.2 = []
    · simp [List.filter_cons, q] at ih ⊢; omega
    · simp [List.filter_cons, q] at ih ⊢; omega
theorem euler_inv (h : Formed Vs Es) : ∀ k, k ≤ Es.length → ∃ P t, Reps (fkF Vs ((Es.take k).map (·.1))) (ringsOf Vs) P ∧ 2 * cntF (lbK Vs Es k) + k = Vs.length + P.length + aloneN Vs + 2 * t
  | 0, _ => by
    refine ⟨hdsF Vs, 0, ?_, ?_⟩
    · have e : fkF Vs ((Es.take 0).map (·.1)) = sgF Vs := by
        funext d
        rw [fkF, show alF ((Es.take 0).map (·.1)) d = d from if_neg (by simp)]
      rw [e]
      exact sg_reps h.once
    · show 2 * cntF (upN Vs.length) + 0 = _
      rw [cnt_up]
      have := hds_len Vs
      omega
  | k + 1, hk => by
    obtain ⟨P, t, hP, hE⟩ := euler_inv h k (by omega)
    have hk' : k < Es.length := by omega
    obtain ⟨e, ge⟩ : ∃ z, Es[k] = z := ⟨_, rfl⟩
    have he : e ∈ Es := ge ▸ List.getElem_mem hk'
    have et : Es.take (k + 1) = Es.take k ++ [e] := by rw [List.take_succ_eq_append_getElem hk', ge]
    have hno : (e.1.1, e.1.2) ∉ (Es.take k).map (·.1) := fun hm => by
      have hnd := rise_nodup h.re
      rw [List.map_take] at hm
      obtain ⟨i, hi, ei⟩ := List.getElem_of_mem hm
      rw [List.length_take, List.length_map] at hi
      rw [List.getElem_take] at ei
      have e2 : (Es.map (·.1))[k]'(by simpa using hk') = e.1 := by rw [List.getElem_map, ge]
      have := (List.getElem_inj hnd).1 (ei.trans e2.symm)
      omega
    obtain ⟨m0, m1⟩ := h.ends he
    have hp0 := plD_lt m0
    have hp1 := plD_lt m1
    have el : ((Es.take (k + 1)).map (·.1)) = (Es.take k).map (·.1) ++ [e.1] := by rw [et, List.map_append]; rfl
    have a1 : ∀ s, alF ((Es.take (k + 1)).map (·.1)) (e.1.1, e.1.2, s) = othD (e.1.1, e.1.2, s) := fun s => if_pos (by rw [el]; exact List.mem_append.2 (.inr (List.mem_singleton.2 rfl)))
    have a2 : ∀ s, alF ((Es.take k).map (·.1)) (e.1.1, e.1.2, s) = (e.1.1, e.1.2, s) := fun s => if_neg hno
    have hne : ((e.1.1, e.1.2, 0) : D) ≠ (e.1.1, e.1.2, 1) := fun q => by simp at q
    obtain ⟨P', hP', h1, h2⟩ := swap_orbs (fk_pm h ((Es.take k).map (·.1))) (fk_pm h ((Es.take (k + 1)).map (·.1))) m0 m1 hne
      (by rw [fkF, fkF, a1, a2]; rfl) (by rw [fkF, fkF, a1, a2]; rfl) (fun z hz z0 z1 => by
        have : alF ((Es.take (k + 1)).map (·.1)) z = alF ((Es.take k).map (·.1)) z := by
          unfold alF
          rw [el]
          have hz2 : (z.1, z.2.1) ≠ e.1 := fun q => by
            obtain ⟨_, _, _, hs⟩ := (h.mem z).1 hz
            obtain ⟨a, b, c⟩ := z
            simp only at hs q
            rcases hs with rfl | rfl
            · exact z0 (by rw [← q])
            · exact z1 (by rw [← q])
          by_cases q : (z.1, z.2.1) ∈ (Es.take k).map (·.1)
          · rw [if_pos q, if_pos (List.mem_append.2 (.inl q))]
          · rw [if_neg q, if_neg (fun hm => (List.mem_append.1 hm).elim q (fun hm => hz2 (List.mem_singleton.1 hm)))]
        rw [fkF, fkF, this]) hP
    have hL : lbK Vs Es (k + 1) = joinF (lbK Vs Es k) ((lbK Vs Es k).getD (plD Vs (e.1.1, e.1.2, 0)) 0) ((lbK Vs Es k).getD (plD Vs (e.1.1, e.1.2, 1)) 0) := by
      unfold lbK joins
      rw [et, List.map_append, List.foldl_append]
      rfl
    have hlen := (lbK_lab h k).len
    have hj := cnt_join (lbK_lab h k).ok (p := plD Vs (e.1.1, e.1.2, 0)) (q := plD Vs (e.1.1, e.1.2, 1)) (by omega) (by omega)
    rw [← hL] at hj
    by_cases hr : Rl (fkF Vs ((Es.take k).map (·.1))) (e.1.1, e.1.2, 0) (e.1.1, e.1.2, 1)
    · rw [if_pos (lbK_face h k m0 hr).symm] at hj
      have := h1 hr
      exact ⟨P', t, hP', by omega⟩
    · have := h2 hr
      by_cases hq : (lbK Vs Es k).getD (plD Vs (e.1.1, e.1.2, 0)) 0 = (lbK Vs Es k).getD (plD Vs (e.1.1, e.1.2, 1)) 0
      · rw [if_pos hq] at hj
        exact ⟨P', t + 1, hP', by omega⟩
      · rw [if_neg hq] at hj
        exact ⟨P', t, hP', by omega⟩
theorem lbK_all (h : Formed Vs Es) : lbK Vs Es Es.length = labF Vs := by
  have h1 := lbK_lab h Es.length
  refine (h1.of_iff (R' := Sh Vs) fun f => ?_).uniq (labF_lab Vs)
  rw [List.take_length]
  constructor
  · rintro hc i k hi hk ⟨y, ⟨u, hu, d, hd, e1⟩, v, hv, d', hd', e2⟩
    obtain ⟨e, he, q1, s1⟩ := (h.mem d).1 (ring_mem.2 ⟨u, List.mem_of_getElem? hu, hd⟩)
    obtain ⟨e', he', q2, s2⟩ := (h.mem d').1 (ring_mem.2 ⟨v, List.mem_of_getElem? hv, hd'⟩)
    have p1 := plD_eq h.once hu hd
    have p2 := plD_eq h.once hv hd'
    obtain ⟨a, b, c⟩ := d
    obtain ⟨a', b', c'⟩ := d'
    simp only at q1 q2 s1 s2 e1 e2
    rw [e1] at e2
    injection e2 with e3 e4
    subst e3 e4
    have hc0 := hc (peF Vs e).1 (peF Vs e).2 (plD_lt (h.ends he).1) (plD_lt (h.ends he).2) (.inr (List.mem_map.2 ⟨e, he, rfl⟩))
    have ea : (peF Vs e).1 = plD Vs (a, b, 0) := by show plD Vs (e.1.1, e.1.2, 0) = _; rw [q1]
    have eb : (peF Vs e).2 = plD Vs (a, b, 1) := by show plD Vs (e.1.1, e.1.2, 1) = _; rw [q1]
    rw [ea, eb] at hc0
    rcases s1 with rfl | rfl <;> rcases s2 with rfl | rfl
    · rw [← p1, ← p2]
    · rw [← p1, ← p2]; exact hc0
    · rw [← p1, ← p2]; exact hc0.symm
    · rw [← p1, ← p2]
  · rintro hc i k hi hk (hf | hm)
    · exact hf.elim
    · obtain ⟨e, he, e1⟩ := List.mem_map.1 hm
      obtain ⟨m0, m1⟩ := h.ends he
      obtain ⟨u, hu, hd⟩ := plD_at m0
      obtain ⟨v, hv, hd'⟩ := plD_at m1
      have ei : plD Vs (e.1.1, e.1.2, 0) = i := congrArg Prod.fst e1
      have ek : plD Vs (e.1.1, e.1.2, 1) = k := congrArg Prod.snd e1
      rw [ei] at hu
      rw [ek] at hv
      exact hc i k hi hk ⟨(e.1.1, e.1.2), ⟨u, hu, _, hd, rfl⟩, v, hv, _, hd', rfl⟩
/-- Faces that darts go round. -/
def facN (Vs : List VC) (Es : List EC) : Nat := (orbsF (phF Vs) 80 (dsE Es) []).length
theorem facN_reps (h : Formed Vs Es) : ∃ P, Reps (phF Vs) (ringsOf Vs) P ∧ facN Vs Es = P.length := by
  obtain ⟨P, hP, e⟩ := orbs_reps h.phi h.l80 (dsE Es) h.ds
  exact ⟨P, hP, by rw [facN, e, List.length_map]⟩
theorem euler_num (h : Formed Vs Es) : ∃ t, 2 * cntF (labF Vs) + Es.length = Vs.length + (facN Vs Es + aloneN Vs) + 2 * t := by
  obtain ⟨P, t, hP, e⟩ := euler_inv h Es.length (Nat.le_refl _)
  rw [lbK_all h, List.take_length] at *
  obtain ⟨Q, hQ, eQ⟩ := facN_reps h
  have hc := hP.congr (fk_pm h _) (fun x hx => fk_all h hx)
  have := hc.len h.phi hQ
  exact ⟨t, by omega⟩
theorem parts_edges (h : Formed Vs Es) : Vs.length ≤ Es.length + cntF (labF Vs) := by
  have h1 := cnt_joins ((Es.take Es.length).map (peF Vs)) _ (upN Vs.length) (pairs_lt h Es.length) (Lab.up Vs.length)
  rw [cnt_up, List.length_map, List.length_take, Nat.min_self] at h1
  have h2 : joins ((Es.take Es.length).map (peF Vs)) (upN Vs.length) = labF Vs := lbK_all h
  rw [h2] at h1
  omega
end
end Go.Proofs.Ytpindjknngcccaa

/- Each part has a face. -/
namespace Go.Proofs.Ytpindjknngcccaa
open Go.RowKit
set_option linter.unusedSimpArgs false
set_option linter.unusedVariables false
section
variable {Vs : List VC} {Es : List EC}
theorem lab_face (h : Formed Vs Es) {x y : D} (hx : x ∈ ringsOf Vs) (r : Rl (phF Vs) x y) : (labF Vs).getD (plD Vs y) 0 = (labF Vs).getD (plD Vs x) 0 := by
  have e := lbK_face h Es.length hx (y := y) (by
    rw [List.take_length]
    exact (Rl_congr (fk_pm h _) (fun d hd => fk_all h hd) hx y).2 r)
  rwa [lbK_all h] at e
theorem lab_oth (h : Formed Vs Es) {d : D} (hd : d ∈ ringsOf Vs) : (labF Vs).getD (plD Vs (othD d)) 0 = (labF Vs).getD (plD Vs d) 0 := by
  obtain ⟨u, hu, hr⟩ := plD_at hd
  obtain ⟨v, hv, hr'⟩ := plD_at (h.oth hd)
  exact ((labF_lab Vs).co _ _ (plD_lt hd) (plD_lt (h.oth hd)) ⟨(d.1, d.2.1), ⟨u, hu, d, hr, rfl⟩, v, hv, _, hr', rfl⟩).symm
theorem parts_faces (h : Formed Vs Es) : cntF (labF Vs) ≤ facN Vs Es + aloneN Vs := by
  obtain ⟨P, hP, e⟩ := facN_reps h
  have hl : (labF Vs).length = Vs.length := labF_len Vs
  unfold cntF
  rw [List.countP_eq_length_filter, hl]
  have h1 := inj_le (β := I2 ⊕ D) (fun (i : Nat) (b : I2 ⊕ D) => match b with
    | .inl y => ∃ v, Vs[i]? = some v ∧ v.1 = y
    | .inr p => ∃ d, d ∈ ringsOf Vs ∧ plD Vs d = i ∧ Rl (phF Vs) p d) ((List.range Vs.length).filter (rootB (labF Vs))) (((Vs.filter fun v => decide (v.2.1.2.2.2 = [])).map fun v => Sum.inl v.1) ++ P.map Sum.inr) (List.nodup_range.filter _) (fun i hi => by
      obtain ⟨hi1, hi2⟩ := List.mem_filter.1 hi
      have hin := List.mem_range.1 hi1
      obtain ⟨v, gv⟩ : ∃ v, Vs[i]? = some v := ⟨_, List.getElem?_eq_getElem hin⟩
      have hv := List.mem_of_getElem? gv
      by_cases q : v.2.1.2.2.2 = []
      · exact ⟨.inl v.1, List.mem_append.2 (.inl (List.mem_map.2 ⟨v, List.mem_filter.2 ⟨hv, decide_eq_true q⟩, rfl⟩)), v, gv, rfl⟩
      · have hm := hd_mem q
        have hr := ring_mem.2 ⟨v, hv, hm⟩
        obtain ⟨p, hp, r⟩ := hP.all _ hr
        exact ⟨.inr p, List.mem_append.2 (.inr (List.mem_map.2 ⟨p, hp, rfl⟩)), _, hr, plD_eq h.once gv hm, r⟩) (fun i hi k hk b hb r1 r2 => by
      obtain ⟨_, hi2⟩ := List.mem_filter.1 hi
      obtain ⟨_, hk2⟩ := List.mem_filter.1 hk
      cases b with
      | inl y =>
        obtain ⟨v, gv, e1⟩ := r1
        obtain ⟨u, gu, e2⟩ := r2
        have g1 : (Vs.map (·.1))[i]? = some y := by rw [List.getElem?_map, gv, ← e1]; rfl
        have g2 : (Vs.map (·.1))[k]? = some y := by rw [List.getElem?_map, gu, ← e2]; rfl
        obtain ⟨h1, h2⟩ := List.getElem?_eq_some_iff.1 g1
        obtain ⟨h3, h4⟩ := List.getElem?_eq_some_iff.1 g2
        exact (List.getElem_inj (rise_nodup h.rv)).1 (h2.trans h4.symm)
      | inr p =>
        obtain ⟨d, hd, e1, r1⟩ := r1
        obtain ⟨d', hd', e2, r2⟩ := r2
        have hpm := hP.sub p (by
          rcases List.mem_append.1 hb with hb | hb
          · obtain ⟨_, _, e⟩ := List.mem_map.1 hb; cases e
          · obtain ⟨q, hq, e⟩ := List.mem_map.1 hb; cases e; exact hq)
        have g1 := lab_face h hpm r1
        have g2 := lab_face h hpm r2
        rw [e1] at g1
        rw [e2] at g2
        have q1 : (labF Vs).getD i 0 = (i : Int) := by simpa [rootB] using hi2
        have q2 : (labF Vs).getD k 0 = (k : Int) := by simpa [rootB] using hk2
        omega)
  rw [List.length_append, List.length_map, List.length_map] at h1
  show _ ≤ facN Vs Es + aloneN Vs
  rw [e]
  unfold aloneN
  omega
/-- All of it: the genus is t, a whole number; no more than half of the edges. -/
theorem euler_all (h : Formed Vs Es) : ∃ t, 2 * cntF (labF Vs) + Es.length = Vs.length + (facN Vs Es + aloneN Vs) + 2 * t ∧ 2 * t ≤ Es.length ∧ Vs.length ≤ Es.length + cntF (labF Vs) ∧ cntF (labF Vs) ≤ facN Vs Es + aloneN Vs ∧ (Vs.length = Es.length + cntF (labF Vs) → facN Vs Es + aloneN Vs = cntF (labF Vs) ∧ t = 0) := by
  obtain ⟨t, e⟩ := euler_num h
  have h1 := parts_edges h
  have h2 := parts_faces h
  have h3 := cnt_le Vs
  exact ⟨t, e, by omega, h1, h2, fun q => by omega⟩
end
end Go.Proofs.Ytpindjknngcccaa
