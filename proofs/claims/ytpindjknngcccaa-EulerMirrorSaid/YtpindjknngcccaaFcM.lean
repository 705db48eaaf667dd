/- The other way round: the turned diagram, its faces. -/
import Derived.Test.YtpindjknngcccaaFcB
import Derived.Test.YtpindjknngcccaaFcS
import Derived.Test.YtpindjknngcccaaFcD
import Derived.Test.YtpindjknngcccaaWro
namespace Go.Proofs.Ytpindjknngcccaa
open Go.RowKit
set_option linter.unusedSimpArgs false
set_option linter.unusedVariables false

theorem rev_nodup {R : List D} (h : R.Nodup) : R.reverse.Nodup := (List.reverse_perm R).nodup_iff.2 h
/-- A vertex with its ring the other way round. -/
def mV (v : VC) : VC := (v.1, (v.2.1.1, v.2.1.2.1, v.2.1.2.2.1, bkL v.2.1.2.2.2), v.2.2)
theorem rings_back : ∀ Vs : List VC, (ringsOf (Vs.map mV)).Perm (ringsOf Vs)
  | [] => List.Perm.refl _
  | v :: r => by
    rw [List.map_cons, ringsOf_cons, ringsOf_cons]
    exact ((turn_perm _).trans (List.reverse_perm _)).append (rings_back r)
theorem back_formed {Vs : List VC} {Es : List EC} (h : Formed Vs Es) : Formed (Vs.map mV) Es := by
  refine ⟨by simpa using h.v24, h.e40, ?_, h.re, ?_, (rings_back Vs).trans h.pm, ?_, h.le, ?_, h.ae⟩
  · rw [List.map_map]
    exact h.rv
  · rw [List.all_eq_true]
    intro v hv
    obtain ⟨u, hu, rfl⟩ := List.mem_map.1 hv
    exact decide_eq_true (turn_ok (rev_nodup (ring_nodup h.once hu)))
  · rw [List.all_eq_true]
    intro v hv
    obtain ⟨u, hu, rfl⟩ := List.mem_map.1 hv
    exact List.all_eq_true.1 h.lv u hu
  · rw [List.all_eq_true]
    intro v hv
    obtain ⟨u, hu, rfl⟩ := List.mem_map.1 hv
    exact List.all_eq_true.1 h.av u hu
theorem nxtR_get {R : List D} (hn : R.Nodup) {k : Nat} (hk : k < R.length) : nxtR R (R.getD k (0, 0, 0)) = R.getD ((k + 1) % R.length) (0, 0, 0) := by
  have e : R.getD k (0, 0, 0) = R[k] := by rw [List.getD_eq_getElem?_getD, List.getElem?_eq_getElem hk]; rfl
  rw [nxtR, e, hn.idxOf_getElem k hk]
theorem getD_at {R : List D} {y : D} (h : y ∈ R) : ∃ k, k < R.length ∧ R.getD k (0, 0, 0) = y := by
  obtain ⟨k, hk, e⟩ := List.getElem_of_mem h
  exact ⟨k, hk, by rw [List.getD_eq_getElem?_getD, List.getElem?_eq_getElem hk]; exact e⟩
theorem rot_get (X Y : List D) {k : Nat} (hk : k < (Y ++ X).length) : (Y ++ X).getD k (0, 0, 0) = (X ++ Y).getD ((k + X.length) % (X ++ Y).length) (0, 0, 0) := by
  rw [List.length_append] at hk
  rw [List.getD_eq_getElem?_getD, List.getD_eq_getElem?_getD, List.length_append]
  by_cases q : k < Y.length
  · rw [List.getElem?_append_left q, Nat.mod_eq_of_lt (by omega), List.getElem?_append_right (by omega), Nat.add_sub_cancel]
  · rw [List.getElem?_append_right (by omega)]
    have e : (k + X.length) % (X.length + Y.length) = k - Y.length := by
      rw [show k + X.length = (k - Y.length) + (X.length + Y.length) by omega, Nat.add_mod_right, Nat.mod_eq_of_lt (by omega)]
    rw [e, List.getElem?_append_left (by omega)]
theorem nxtR_rot {A B : List D} (h : Rot A B) (hn : A.Nodup) {y : D} (hy : y ∈ A) : nxtR B y = nxtR A y := by
  obtain ⟨X, Y, rfl, rfl⟩ := h
  have hnB : (Y ++ X).Nodup := List.perm_append_comm.nodup_iff.1 hn
  obtain ⟨k, hk, rfl⟩ := getD_at (R := Y ++ X) (List.perm_append_comm.mem_iff.1 hy)
  have hl : (Y ++ X).length = (X ++ Y).length := by simp [Nat.add_comm]
  have hpos : 0 < (X ++ Y).length := by omega
  rw [nxtR_get hnB hk, rot_get X Y (Nat.mod_lt _ (by omega)), rot_get X Y hk, nxtR_get hn (Nat.mod_lt _ hpos), hl]
  congr 1
  rw [Nat.mod_add_mod, Nat.mod_add_mod]
  congr 1
  omega
theorem rev_get (R : List D) {k : Nat} (hk : k < R.length) : R.reverse.getD k (0, 0, 0) = R.getD (R.length - 1 - k) (0, 0, 0) := by
  rw [List.getD_eq_getElem?_getD, List.getD_eq_getElem?_getD, List.getElem?_reverse hk]
theorem nxtR_rev {R : List D} (hn : R.Nodup) {y : D} (hy : y ∈ R) : nxtR R.reverse (nxtR R y) = y := by
  obtain ⟨i, hi, rfl⟩ := getD_at hy
  have hpos : 0 < R.length := by omega
  rw [nxtR_get hn hi]
  obtain ⟨j, hj⟩ : ∃ z, (i + 1) % R.length = z := ⟨_, rfl⟩
  have hjl : j < R.length := by rw [← hj]; exact Nat.mod_lt _ hpos
  rw [hj]
  have e1 : R.getD j (0, 0, 0) = R.reverse.getD (R.length - 1 - j) (0, 0, 0) := by
    rw [rev_get R (by omega)]
    congr 1
    omega
  rw [e1, nxtR_get (rev_nodup hn) (by rw [List.length_reverse]; omega), List.length_reverse]
  by_cases q : i + 1 = R.length
  · rw [q, Nat.mod_self] at hj
    subst hj
    rw [show R.length - 1 - 0 + 1 = R.length by omega, Nat.mod_self, rev_get R hpos]
    congr 1
    omega
  · rw [Nat.mod_eq_of_lt (by omega)] at hj
    subst hj
    rw [Nat.mod_eq_of_lt (by omega), rev_get R (by omega)]
    congr 1
    omega
theorem nxtR_mem2 {R : List D} {y : D} (hy : y ∈ R) : nxtR R y ∈ R := nxtR_mem hy
theorem nxtR_back {R : List D} (hn : R.Nodup) {y : D} (hy : y ∈ R) : nxtR (bkL R) (nxtR R y) = y := by
  rw [bkL, nxtR_rot (rot_turn R.reverse) (rev_nodup hn) (List.mem_reverse.2 (nxtR_mem hy))]
  exact nxtR_rev hn hy
theorem sg_back {Vs : List VC} {Es : List EC} (h : Formed Vs Es) {y : D} (hy : y ∈ ringsOf Vs) : sgF (Vs.map mV) (sgF Vs y) = y := by
  obtain ⟨v, hv, hr⟩ := ring_mem.1 hy
  rw [sgF_at h.once hv hr, sgF_at (back_formed h).once (List.mem_map.2 ⟨v, hv, rfl⟩) (by
    show nxtR v.2.1.2.2.2 y ∈ bkL v.2.1.2.2.2
    rw [bkL_mem]
    exact nxtR_mem hr)]
  exact nxtR_back (ring_nodup h.once hv) hr
theorem nxV_same : ∀ (Us Ws : List VC) (f : D → Option D), Us.map (fun v => v.2.1.2.2.2) = Ws.map (fun v => v.2.1.2.2.2) → nxV Us f = nxV Ws f
  | [], [], _, _ => rfl
  | [], _ :: _, _, h => by cases h
  | _ :: _, [], _, h => by cases h
  | u :: r, v :: s, f, h => by
    rw [List.map_cons, List.map_cons] at h
    injection h with h1 h2
    rw [nxV, nxV, h1]
    exact nxV_same r s _ h2
theorem sigM_same {Us Ws : List VC} (h : Us.map vS = Ws.map vS) : sigM Us = sigM Ws := by
  have h1 := congrArg (List.map (fun s : (Int × Int) × List D × ByteArray × Int => s.2.1)) h
  rw [List.map_map, List.map_map] at h1
  exact nxV_same Us Ws _ h1
theorem phF_same {Us Ws : List VC} (h : Us.map vS = Ws.map vS) : phF Us = phF Ws := by
  funext y
  rw [phF, phF, sgF, sgF, sigM_same h]
/-- How many rows there are of a length. -/
def cntL (O : List (List D)) (s : Nat) : Nat := (O.filter fun l => decide (l.length = s)).length
theorem cntL_next {O : List (List D)} {i : Nat} {F : List D} (h : O[i]? = some F) (s : Nat) : cntL (O.take (i + 1)) s = cntL (O.take i) s + if F.length = s then 1 else 0 := by
  unfold cntL
  rw [List.take_add_one, h, List.filter_append, List.length_append]
  congr 1
  simp only [Option.toList_some, List.filter_cons, List.filter_nil]
  by_cases q : F.length = s
  · simp [q]
  · simp [q]
theorem cntL_le (O : List (List D)) (s : Nat) : cntL O s ≤ O.length := List.length_filter_le _ _
section
variable {Vs Us : List VC} {Es : List EC}
theorem Formed.phiE (h : Formed Vs Es) (hd : (dsE Es).Nodup) : Pm (phF Vs) (dsE Es) :=
  ⟨hd, fun x hx => (h.ds _).2 (h.phi.cl x ((h.ds x).1 hx)), fun x hx y hy e => h.phi.inj x ((h.ds x).1 hx) y ((h.ds y).1 hy) e⟩
theorem cntL_orb (f : D → D) (P : List D) (s : Nat) : cntL (P.map fun x => orbT f x 80 x) s = cntO f 80 P s := by
  unfold cntL cntO
  rw [List.filter_map, List.length_map]
  rfl
theorem moves_cnt (h : Formed Vs Es) (hd : (dsE Es).Nodup) (k : Formed Us Es) (hb : ∀ y ∈ ringsOf Vs, sgF Us (sgF Vs y) = y) :
    (∀ s, cntL (orbsF (phF Vs) 80 (dsE Es) []) s = cntL (orbsF (phF Us) 80 (dsE Es) []) s) ∧ (orbsF (phF Vs) 80 (dsE Es) []).length = (orbsF (phF Us) 80 (dsE Es) []).length := by
  have h8 : (dsE Es).length ≤ 80 := by rw [dsE_len]; have := h.e40; omega
  obtain ⟨P, hP, eP⟩ := orbs_reps (h.phiE hd) h8 (dsE Es) (fun x => Iff.rfl)
  obtain ⟨Q, hQ, eQ⟩ := orbs_reps (k.phiE hd) h8 (dsE Es) (fun x => Iff.rfl)
  have hl : ∀ x ∈ dsE Es, othD x ∈ dsE Es := fun x hx => (h.ds _).2 (h.oth ((h.ds x).1 hx))
  obtain ⟨h1, h2⟩ := turn_cnt (f := phF Vs) (f' := phF Us) (u := othD) (L := dsE Es) (fun x hx => by
    have hx := (h.ds x).1 hx
    show sgF Us (othD (othD (sgF Vs (othD x)))) = othD x
    rw [oth_oth]
    exact hb _ (h.oth hx)) (h.phiE hd) (k.phiE hd) hl (fun x _ y _ e => by rw [← oth_oth x, e, oth_oth]) (fun x hx => ⟨othD x, hl x hx, oth_oth x⟩) h8 hP hQ
  rw [eP, eQ]
  refine ⟨fun s => ?_, by rw [List.length_map, List.length_map]; exact h2⟩
  rw [cntL_orb, cntL_orb]
  exact h1 s
end
end Go.Proofs.Ytpindjknngcccaa
