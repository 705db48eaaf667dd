/- Sigma and Phi, the program's and the document's. -/
import Derived.Test.YtpindjknngcccaaFcS
import Derived.Test.YtpindjknngcccaaRgNx
namespace Go.Proofs.Ytpindjknngcccaa
open Go.RowKit
set_option linter.unusedSimpArgs false
set_option linter.unusedVariables false


/-- The other one, of any dart. -/
def othW (d : D) : D := (d.1, d.2.1, IntKind.i64.wrap (1 - d.2.2))
theorem othW_in {d : D} (h : 0 ≤ d.2.2 ∧ d.2.2 ≤ 1) : othW d = othD d := by
  unfold othW othD
  rw [IntWalk.i64_in (1 - d.2.2) (by omega)]
theorem othW_out {d : D} (h1 : -9223372036854775808 ≤ d.2.2 ∧ d.2.2 ≤ 9223372036854775807) (h : ¬ (d.2.2 = 0 ∨ d.2.2 = 1)) : ¬ ((othW d).2.2 = 0 ∨ (othW d).2.2 = 1) := by
  show ¬ (IntKind.i64.wrap (1 - d.2.2) = 0 ∨ IntKind.i64.wrap (1 - d.2.2) = 1)
  by_cases q : d.2.2 = -9223372036854775808
  · rw [q]; decide
  · rw [IntWalk.i64_left]
    unfold wrap64
    omega
section
variable {Vs : List VC} {Es : List EC}
theorem Formed.othW (h : Formed Vs Es) {d : D} (hb : -9223372036854775808 ≤ d.2.2 ∧ d.2.2 ≤ 9223372036854775807) : (othW d ∈ ringsOf Vs ↔ d ∈ ringsOf Vs) ∧ (d ∈ ringsOf Vs → othW d = othD d) := by
  have hs : ∀ {x : D}, x ∈ ringsOf Vs → x.2.2 = 0 ∨ x.2.2 = 1 := fun hx => by
    obtain ⟨e, _, _, q⟩ := (h.mem _).1 hx
    exact q
  by_cases q : d.2.2 = 0 ∨ d.2.2 = 1
  · have e := othW_in (d := d) (by omega)
    rw [e]
    exact ⟨h.ohs d, fun _ => rfl⟩
  · exact ⟨⟨fun hx => (othW_out hb q (hs hx)).elim, fun hx => (q (hs hx)).elim⟩, fun hx => (q (hs hx)).elim⟩
theorem at_fnd (h : Formed Vs Es) (x : D) : (x ∈ (fndV Vs (atV Vs x).1).1.2.1.2.2.2 ↔ x ∈ ringsOf Vs) ∧ nextD (fndV Vs (atV Vs x).1).1.2.1.2.2.2 x = sgF Vs x ∧ (atV Vs x).2 = decide (x ∈ ringsOf Vs) := by
  by_cases hx : x ∈ ringsOf Vs
  · obtain ⟨v, hv, hr⟩ := ring_mem.1 hx
    have e1 := h.at hv hr
    have e2 : fndV Vs v.1 = (v, true) := by
      have hn := rise_nodup h.rv
      clear h hx e1 hr
      induction Vs with
      | nil => cases hv
      | cons u r ih =>
        rw [List.map_cons, List.nodup_cons] at hn
        rcases List.mem_cons.1 hv with rfl | hv
        · exact fnd_yes _ _ _ _ _ rfl
        · have : ¬ u.1 = v.1 := fun e => hn.1 (e ▸ List.mem_map.2 ⟨v, hv, rfl⟩)
          exact (fnd_no _ _ _ _ _ this).trans (ih hv hn.2)
    rw [e1]
    show (x ∈ (fndV Vs v.1).1.2.1.2.2.2 ↔ _) ∧ nextD (fndV Vs v.1).1.2.1.2.2.2 x = _ ∧ true = _
    rw [e2, sgF_at h.once hv hr, decide_eq_true hx]
    refine ⟨⟨fun _ => hx, fun _ => hr⟩, ?_, rfl⟩
    show stpD _ _ 1 = _
    rw [stpD, if_pos hr]
    rfl
  · have e1 : atV Vs x = ((0, 0), false) := by
      unfold atV
      rw [List.find?_eq_none.2 (fun v hv q => hx (ring_mem.2 ⟨v, hv, of_decide_eq_true q⟩))]
    have e2 : fndV Vs (0, 0) = (zV, false) := by
      unfold fndV fnd
      rw [List.find?_eq_none.2 (fun v hv q => by
        have h1 := ((riseF_iff _ _).1 h.rv).1 v.1 (List.mem_map.2 ⟨v, hv, rfl⟩)
        have q1 : v.1 = (0, 0) := of_decide_eq_true q
        rw [q1] at h1
        revert h1
        decide)]
    rw [e1]
    show (x ∈ (fndV Vs (0, 0)).1.2.1.2.2.2 ↔ _) ∧ nextD (fndV Vs (0, 0)).1.2.1.2.2.2 x = _ ∧ false = _
    rw [e2, sgF, sigM_no h.once hx, decide_eq_false hx]
    exact ⟨⟨fun q => (by cases q), fun q => (hx q).elim⟩, rfl, rfl⟩
end
set_option maxRecDepth 100000 in
set_option maxHeartbeats 4000000 in
theorem other_w (x1 x2 x3 : Int) (w : World) : Calls Try.prog 84 #[.agg #[.int .i64 x1, .int .i64 x2, .int .i64 x3]] w fun e w' => e = .returned (.agg #[.int .i64 (othW (x1, x2, x3)).1, .int .i64 (othW (x1, x2, x3)).2.1, .int .i64 (othW (x1, x2, x3)).2.2]) ∧ Below w.heap.size w w' := by
  go_enter Try.func84, Try.ntmps84
  go_wp2
  exact bodyPost_ret (v := .agg #[.int .i64 x1, .int .i64 x2, .int .i64 (IntKind.i64.wrap (1 - x3))]) (by simp [results, Try.results84, go_sem, IntWalk.i64_left]) rfl ⟨rfl, below2 _ _ _⟩
set_option maxRecDepth 100000 in
set_option maxHeartbeats 4000000 in
theorem rother_w (x1 x2 x3 : Int) (w : World) : Calls Try.prog 26 #[.agg #[.int .i64 x1, .int .i64 x2, .int .i64 x3]] w fun e w' => e = .returned (.agg #[.int .i64 (othW (x1, x2, x3)).1, .int .i64 (othW (x1, x2, x3)).2.1, .int .i64 (othW (x1, x2, x3)).2.2]) ∧ Below w.heap.size w w' := by
  go_enter Try.func26, Try.ntmps26
  go_wp2
  exact bodyPost_ret (v := .agg #[.int .i64 x1, .int .i64 x2, .int .i64 (IntKind.i64.wrap (1 - x3))]) (by simp [results, Try.results26, go_sem, IntWalk.i64_left]) rfl ⟨rfl, below2 _ _ _⟩
set_option maxRecDepth 100000 in
set_option maxHeartbeats 4000000 in
theorem rsigma_any (A : Option Addr) (n c : Nat) (Vs : List VC) (B : Option Addr) (m k : Nat) (Es : List EC) (x1 x2 x3 : Int) (w : World) (h : DgIn w A n c Vs B m k Es) (hf : Formed Vs Es) :
    Calls Try.prog 69 #[.agg #[.slice A n c, .slice B m k], .agg #[.int .i64 x1, .int .i64 x2, .int .i64 x3]] w (GivesD w (sgF Vs (x1, x2, x3)) (decide ((x1, x2, x3) ∈ ringsOf Vs))) := by
  have HDa := Lib.hid h
  have hr : ∀ x ∈ Vs, x.2.1.2.1 ≤ 1000000 := fun x hx => by have := (hf.small h).2.2 x hx; omega
  have hn : n ≤ 1000000 := by have := (hf.small h).1; omega
  obtain ⟨p1, p2, p3⟩ := at_fnd hf (x1, x2, x3)
  have HAt := Lib.hid (fun W (h : DgIn W A n c Vs B m k Es) => rat_any A n c Vs B m k Es x1 x2 x3 W h (by omega) (fun x hx => by have := hr x hx; omega))
  obtain ⟨⟨⟨a1, a2⟩, ok⟩, ga⟩ : ∃ z, atV Vs (x1, x2, x3) = z := ⟨_, rfl⟩
  rw [ga] at HAt p1 p2 p3
  have q1 := fun W (h : DgIn W A n c Vs B m k Es) => fndV_ring h hr (a1, a2)
  obtain ⟨⟨⟨⟨i1, i2⟩, ⟨rA, rn, rc, rL⟩, lb, at_⟩, okv⟩, gv⟩ : ∃ z, fndV Vs (a1, a2) = z := ⟨_, rfl⟩
  have q2 := fun W (h : DgIn W A n c Vs B m k Es) => rfindV A n c Vs B m k Es a1 a2 W (DgIn.v h) (by omega)
  rw [show fndV Vs ((a1, a2), ok).1 = _ from gv] at p1 p2
  simp only [gv] at q1
  replace p1 : (x1, x2, x3) ∈ rL ↔ (x1, x2, x3) ∈ ringsOf Vs := p1
  replace p2 : nextD rL (x1, x2, x3) = sgF Vs (x1, x2, x3) := p2
  replace p3 : ok = decide ((x1, x2, x3) ∈ ringsOf Vs) := p3
  have hrn : ∀ W, DgIn W A n c Vs B m k Es → RdS W W.heap.size 3 rA rn rc (dartsV rL) ∧ rn ≤ 1000000 := fun W h => ⟨(q1 W h).1.2, (q1 W h).2⟩
  have HRn := Lib.hid hrn
  have hNx : ∀ W A' c', RdS W W.heap.size 3 A' rn c' (dartsV rL) → Calls Try.prog 87 #[.slice A' rn c', .agg #[.int .i64 x1, .int .i64 x2, .int .i64 x3]] W (GivesD W (sgF Vs (x1, x2, x3)) (decide ((x1, x2, x3) ∈ ringsOf Vs))) := fun W A' c' h' => by
    have := rfnext_any A' rn c' rL (x1, x2, x3) W h' (hrn _ h).2
    rw [p2, decide_eq_decide.2 p1] at this
    exact this
  have HNx := Lib.hid hNx
  have P3 := Lib.hid p3
  have hV : ∀ W, DgIn W A n c Vs B m k Es → Calls Try.prog 86 #[.agg #[.slice A n c, .slice B m k], .agg #[.int .i64 a1, .int .i64 a2]] W fun e w' => ∃ A' c', e = .returned (.tuple #[.agg #[.int .i64 i1, .int .i64 i2, .slice A' rn c', .string lb, .int .i64 at_], .bool okv]) ∧ RdS w' w'.heap.size 3 A' rn c' (dartsV rL) ∧ Below W.heap.size W w' := fun W h => by
    have h1 := q2 W h
    rw [gv] at h1
    refine Calls.mono h1 ?_
    rintro e w' ⟨rfl, hb⟩
    exact ⟨rA, rc, rfl, (hrn _ (h.bl hb)).1, hb⟩
  have HV := Lib.hid hV
  have hyz : ok = false → sgF Vs (x1, x2, x3) = (0, 0, 0) := fun e => by
    have hx : (x1, x2, x3) ∉ ringsOf Vs := of_decide_eq_false (p3.symm.trans e)
    rw [sgF, sigM_no hf.once hx]
    rfl
  have HYZ0 := Lib.hid hyz
  clear hyz q1 q2 p1 p2 p3 ga gv hrn hNx hV h hf hr hn
  obtain ⟨⟨y1, y2, y3⟩, gy⟩ : ∃ z, sgF Vs (x1, x2, x3) = z := ⟨_, rfl⟩
  obtain ⟨oy, goy⟩ : ∃ z, decide ((x1, x2, x3) ∈ ringsOf Vs) = z := ⟨_, rfl⟩
  rw [gy, goy] at HNx
  rw [gy] at HYZ0
  rw [goy] at P3
  rw [gy, goy]
  clear gy goy
  go_enter Try.func69, Try.ntmps69
  have lw1 : ((((w.alloc (.cells #[.slice A n c, .slice B m k] 25)).alloc (.cells #[.int .i64 x1, .int .i64 x2, .int .i64 x3] 39)).alloc (.cells #[.int .i64 0, .int .i64 0, .int .i64 0] 39))).cell? ⟨w.heap.size, 0, none⟩ = some (.slice A n c) := (((show Whole (w.alloc (.cells #[.slice A n c, .slice B m k] 25)) (w.heap.size) (25) ([.slice A n c, .slice B m k]) from Whole.new2 (by first | rfl | simp)).al (.cells #[.int .i64 x1, .int .i64 x2, .int .i64 x3] 39)).al (.cells #[.int .i64 0, .int .i64 0, .int .i64 0] 39)).cell (i := 0) rfl
  have lw2 : ((((w.alloc (.cells #[.slice A n c, .slice B m k] 25)).alloc (.cells #[.int .i64 x1, .int .i64 x2, .int .i64 x3] 39)).alloc (.cells #[.int .i64 0, .int .i64 0, .int .i64 0] 39))).cell? ⟨w.heap.size, 1, none⟩ = some (.slice B m k) := (((show Whole (w.alloc (.cells #[.slice A n c, .slice B m k] 25)) (w.heap.size) (25) ([.slice A n c, .slice B m k]) from Whole.new2 (by first | rfl | simp)).al (.cells #[.int .i64 x1, .int .i64 x2, .int .i64 x3] 39)).al (.cells #[.int .i64 0, .int .i64 0, .int .i64 0] 39)).cell (i := 1) rfl
  have lw3 : ((((w.alloc (.cells #[.slice A n c, .slice B m k] 25)).alloc (.cells #[.int .i64 x1, .int .i64 x2, .int .i64 x3] 39)).alloc (.cells #[.int .i64 0, .int .i64 0, .int .i64 0] 39))).cell? ⟨w.heap.size + 1, 0, none⟩ = some (.int .i64 x1) := ((show Whole ((w.alloc (.cells #[.slice A n c, .slice B m k] 25)).alloc (.cells #[.int .i64 x1, .int .i64 x2, .int .i64 x3] 39)) ((w.heap.size + 1)) (39) ([.int .i64 x1, .int .i64 x2, .int .i64 x3]) from Whole.new2 (by first | rfl | simp)).al (.cells #[.int .i64 0, .int .i64 0, .int .i64 0] 39)).cell (i := 0) rfl
  have lw4 : ((((w.alloc (.cells #[.slice A n c, .slice B m k] 25)).alloc (.cells #[.int .i64 x1, .int .i64 x2, .int .i64 x3] 39)).alloc (.cells #[.int .i64 0, .int .i64 0, .int .i64 0] 39))).cell? ⟨w.heap.size + 1, 1, none⟩ = some (.int .i64 x2) := ((show Whole ((w.alloc (.cells #[.slice A n c, .slice B m k] 25)).alloc (.cells #[.int .i64 x1, .int .i64 x2, .int .i64 x3] 39)) ((w.heap.size + 1)) (39) ([.int .i64 x1, .int .i64 x2, .int .i64 x3]) from Whole.new2 (by first | rfl | simp)).al (.cells #[.int .i64 0, .int .i64 0, .int .i64 0] 39)).cell (i := 1) rfl
  have lw5 : ((((w.alloc (.cells #[.slice A n c, .slice B m k] 25)).alloc (.cells #[.int .i64 x1, .int .i64 x2, .int .i64 x3] 39)).alloc (.cells #[.int .i64 0, .int .i64 0, .int .i64 0] 39))).cell? ⟨w.heap.size + 1, 2, none⟩ = some (.int .i64 x3) := ((show Whole ((w.alloc (.cells #[.slice A n c, .slice B m k] 25)).alloc (.cells #[.int .i64 x1, .int .i64 x2, .int .i64 x3] 39)) ((w.heap.size + 1)) (39) ([.int .i64 x1, .int .i64 x2, .int .i64 x3]) from Whole.new2 (by first | rfl | simp)).al (.cells #[.int .i64 0, .int .i64 0, .int .i64 0] 39)).cell (i := 2) rfl
  go_wp2_with fail
  clear lw1 lw2 lw3 lw4 lw5
  refine (HAt.out _ (((HDa.out.al (.cells #[.slice A n c, .slice B m k] 25)).al (.cells #[.int .i64 x1, .int .i64 x2, .int .i64 x3] 39)).al (.cells #[.int .i64 0, .int .i64 0, .int .i64 0] 39))).mono ?_
  rintro e w6 ⟨rfl, hb6⟩
  have Da_7 := Lib.hid ((((HDa.out.al (.cells #[.slice A n c, .slice B m k] 25)).al (.cells #[.int .i64 x1, .int .i64 x2, .int .i64 x3] 39)).al (.cells #[.int .i64 0, .int .i64 0, .int .i64 0] 39)).bl hb6)
  have D0_7 := Lib.hid ((((show Whole (w.alloc (.cells #[.slice A n c, .slice B m k] 25)) (w.heap.size) (25) ([.slice A n c, .slice B m k]) from Whole.new2 (by first | rfl | simp)).al (.cells #[.int .i64 x1, .int .i64 x2, .int .i64 x3] 39)).al (.cells #[.int .i64 0, .int .i64 0, .int .i64 0] 39)).bl hb6)
  have X_7 := Lib.hid (((show Whole ((w.alloc (.cells #[.slice A n c, .slice B m k] 25)).alloc (.cells #[.int .i64 x1, .int .i64 x2, .int .i64 x3] 39)) ((w.heap.size + 1)) (39) ([.int .i64 x1, .int .i64 x2, .int .i64 x3]) from Whole.new2 (by first | rfl | simp)).al (.cells #[.int .i64 0, .int .i64 0, .int .i64 0] 39)).bl hb6)
  have R_7 := Lib.hid ((show Whole (((w.alloc (.cells #[.slice A n c, .slice B m k] 25)).alloc (.cells #[.int .i64 x1, .int .i64 x2, .int .i64 x3] 39)).alloc (.cells #[.int .i64 0, .int .i64 0, .int .i64 0] 39)) ((w.heap.size + 1 + 1)) (39) ([.int .i64 0, .int .i64 0, .int .i64 0]) from Whole.new2 (by first | rfl | simp)).bl hb6)
  have Bel_7 := Lib.hid (bel_bl (bel_al (bel_al (bel_al (Below.refl _ w) (.cells #[.slice A n c, .slice B m k] 25)) (.cells #[.int .i64 x1, .int .i64 x2, .int .i64 x3] 39)) (.cells #[.int .i64 0, .int .i64 0, .int .i64 0] 39)) hb6)
  clear HDa
  clear hb6
  have LO_D0_8 : RowKit.Hid (w.heap.size ≤ w.heap.size) := Lib.hid (by omega)
  have LO_X_9 : RowKit.Hid (w.heap.size ≤ (w.heap.size + 1)) := Lib.hid (by omega)
  have NE_D0_X : RowKit.Hid (w.heap.size ≠ (w.heap.size + 1)) := Lib.hid (by omega)
  have LO_R_10 : RowKit.Hid (w.heap.size ≤ (w.heap.size + 1 + 1)) := Lib.hid (by omega)
  have NE_D0_R : RowKit.Hid (w.heap.size ≠ (w.heap.size + 1 + 1)) := Lib.hid (by omega)
  have NE_X_R : RowKit.Hid ((w.heap.size + 1) ≠ (w.heap.size + 1 + 1)) := Lib.hid (by omega)
  cases ok with
  | false =>
    obtain rfl : false = oy := P3.out
    have hyz : RowKit.Hid ((y1, y2, y3) = ((0, 0, 0) : D)) := Lib.hid (HYZ0.out rfl)
    obtain ⟨hy1, hy2, hy3⟩ : y1 = 0 ∧ y2 = 0 ∧ y3 = 0 := by
      have := hyz.out
      simp only [Prod.mk.injEq] at this
      exact this
    subst hy1 hy2 hy3
    have z0 := (R_7.out.al (.cells #[.int .i64 a1, .int .i64 a2] 35)).cell (i := 0) rfl
    have z1 := (R_7.out.al (.cells #[.int .i64 a1, .int .i64 a2] 35)).cell (i := 1) rfl
    have z2 := (R_7.out.al (.cells #[.int .i64 a1, .int .i64 a2] 35)).cell (i := 2) rfl
    have f0 := (R_7.out.al (.cells #[.int .i64 a1, .int .i64 a2] 35)).free 0
    have f1 := (R_7.out.al (.cells #[.int .i64 a1, .int .i64 a2] 35)).free 1
    have f2 := (R_7.out.al (.cells #[.int .i64 a1, .int .i64 a2] 35)).free 2
    have HY := Lib.hid ((((R_7.out.al (.cells #[.int .i64 a1, .int .i64 a2] 35)).set_ 0 (.int .i64 0)).set_ 1 (.int .i64 0)).set_ 2 (.int .i64 0))
    have HBz := Lib.hid ((((bel_al Bel_7.out (.cells #[.int .i64 a1, .int .i64 a2] 35)).setCell (p := ⟨w.heap.size + 1 + 1, 0, none⟩) (show w.heap.size ≤ w.heap.size + 1 + 1 by omega) (.int .i64 0)).setCell (p := ⟨w.heap.size + 1 + 1, 1, none⟩) (show w.heap.size ≤ w.heap.size + 1 + 1 by omega) (.int .i64 0)).setCell (p := ⟨w.heap.size + 1 + 1, 2, none⟩) (show w.heap.size ≤ w.heap.size + 1 + 1 by omega) (.int .i64 0))
    go_wp2
    exact ret_whole2 rfl (w.heap.size + 1 + 1) rfl rfl HY.out Try.underlying39 rfl (by kernel_rfl) rfl ⟨rfl, HBz.out⟩
  | true =>
  skip
  have lw11 : ((w6.alloc (.cells #[.int .i64 a1, .int .i64 a2] 35))).cell? ⟨w.heap.size, 0, none⟩ = some (.slice A n c) := (D0_7.out.al (.cells #[.int .i64 a1, .int .i64 a2] 35)).cell (i := 0) rfl
  have lw12 : ((w6.alloc (.cells #[.int .i64 a1, .int .i64 a2] 35))).cell? ⟨w.heap.size, 1, none⟩ = some (.slice B m k) := (D0_7.out.al (.cells #[.int .i64 a1, .int .i64 a2] 35)).cell (i := 1) rfl
  have lw13 : ((w6.alloc (.cells #[.int .i64 a1, .int .i64 a2] 35))).cell? ⟨w6.heap.size, 0, none⟩ = some (.int .i64 a1) := (show Whole (w6.alloc (.cells #[.int .i64 a1, .int .i64 a2] 35)) (w6.heap.size) (35) ([.int .i64 a1, .int .i64 a2]) from Whole.new2 (by first | rfl | simp)).cell (i := 0) rfl
  have lw14 : ((w6.alloc (.cells #[.int .i64 a1, .int .i64 a2] 35))).cell? ⟨w6.heap.size, 1, none⟩ = some (.int .i64 a2) := (show Whole (w6.alloc (.cells #[.int .i64 a1, .int .i64 a2] 35)) (w6.heap.size) (35) ([.int .i64 a1, .int .i64 a2]) from Whole.new2 (by first | rfl | simp)).cell (i := 1) rfl
  go_wp2_with fail
  clear lw11 lw12 lw13 lw14
  refine (HV.out _ (Da_7.out.al (.cells #[.int .i64 a1, .int .i64 a2] 35))).mono ?_
  rintro e w15 ⟨A1, c1, rfl, hR, hb15⟩
  have Da_16 := Lib.hid ((Da_7.out.al (.cells #[.int .i64 a1, .int .i64 a2] 35)).bl hb15)
  have D0_16 := Lib.hid ((D0_7.out.al (.cells #[.int .i64 a1, .int .i64 a2] 35)).bl hb15)
  have X_16 := Lib.hid ((X_7.out.al (.cells #[.int .i64 a1, .int .i64 a2] 35)).bl hb15)
  have R_16 := Lib.hid ((R_7.out.al (.cells #[.int .i64 a1, .int .i64 a2] 35)).bl hb15)
  have I_16 := Lib.hid ((show Whole (w6.alloc (.cells #[.int .i64 a1, .int .i64 a2] 35)) (w6.heap.size) (35) ([.int .i64 a1, .int .i64 a2]) from Whole.new2 (by first | rfl | simp)).bl hb15)
  have Bel_16 := Lib.hid (bel_bl (bel_al Bel_7.out (.cells #[.int .i64 a1, .int .i64 a2] 35)) hb15)
  clear Da_7 D0_7 X_7 R_7 Bel_7
  clear hb15
  have Rg_16 := Lib.hid hR
  clear hR
  have lw17 : ((w15.alloc (.cells #[.int .i64 i1, .int .i64 i2, .slice A1 rn c1, .string lb, .int .i64 at_] 42))).cell? ⟨w.heap.size + 1, 0, none⟩ = some (.int .i64 x1) := (X_16.out.al (.cells #[.int .i64 i1, .int .i64 i2, .slice A1 rn c1, .string lb, .int .i64 at_] 42)).cell (i := 0) rfl
  have lw18 : ((w15.alloc (.cells #[.int .i64 i1, .int .i64 i2, .slice A1 rn c1, .string lb, .int .i64 at_] 42))).cell? ⟨w.heap.size + 1, 1, none⟩ = some (.int .i64 x2) := (X_16.out.al (.cells #[.int .i64 i1, .int .i64 i2, .slice A1 rn c1, .string lb, .int .i64 at_] 42)).cell (i := 1) rfl
  have lw19 : ((w15.alloc (.cells #[.int .i64 i1, .int .i64 i2, .slice A1 rn c1, .string lb, .int .i64 at_] 42))).cell? ⟨w.heap.size + 1, 2, none⟩ = some (.int .i64 x3) := (X_16.out.al (.cells #[.int .i64 i1, .int .i64 i2, .slice A1 rn c1, .string lb, .int .i64 at_] 42)).cell (i := 2) rfl
  have lw20 : ((w15.alloc (.cells #[.int .i64 i1, .int .i64 i2, .slice A1 rn c1, .string lb, .int .i64 at_] 42))).cell? ⟨w15.heap.size, 2, none⟩ = some (.slice A1 rn c1) := (show Whole (w15.alloc (.cells #[.int .i64 i1, .int .i64 i2, .slice A1 rn c1, .string lb, .int .i64 at_] 42)) (w15.heap.size) (42) ([.int .i64 i1, .int .i64 i2, .slice A1 rn c1, .string lb, .int .i64 at_]) from Whole.new2 (by first | rfl | simp)).cell (i := 2) rfl
  go_wp2_with fail
  clear lw17 lw18 lw19 lw20
  refine (HNx.out _ _ _ (Rg_16.out.al (.cells #[.int .i64 i1, .int .i64 i2, .slice A1 rn c1, .string lb, .int .i64 at_] 42))).mono ?_
  rintro e w21 ⟨rfl, hb21⟩
  have Da_22 := Lib.hid ((Da_16.out.al (.cells #[.int .i64 i1, .int .i64 i2, .slice A1 rn c1, .string lb, .int .i64 at_] 42)).bl hb21)
  have D0_22 := Lib.hid ((D0_16.out.al (.cells #[.int .i64 i1, .int .i64 i2, .slice A1 rn c1, .string lb, .int .i64 at_] 42)).bl hb21)
  have X_22 := Lib.hid ((X_16.out.al (.cells #[.int .i64 i1, .int .i64 i2, .slice A1 rn c1, .string lb, .int .i64 at_] 42)).bl hb21)
  have R_22 := Lib.hid ((R_16.out.al (.cells #[.int .i64 i1, .int .i64 i2, .slice A1 rn c1, .string lb, .int .i64 at_] 42)).bl hb21)
  have I_22 := Lib.hid ((I_16.out.al (.cells #[.int .i64 i1, .int .i64 i2, .slice A1 rn c1, .string lb, .int .i64 at_] 42)).bl hb21)
  have Rg_22 := Lib.hid ((Rg_16.out.al (.cells #[.int .i64 i1, .int .i64 i2, .slice A1 rn c1, .string lb, .int .i64 at_] 42)).bl hb21)
  have V_22 := Lib.hid ((show Whole (w15.alloc (.cells #[.int .i64 i1, .int .i64 i2, .slice A1 rn c1, .string lb, .int .i64 at_] 42)) (w15.heap.size) (42) ([.int .i64 i1, .int .i64 i2, .slice A1 rn c1, .string lb, .int .i64 at_]) from Whole.new2 (by first | rfl | simp)).bl hb21)
  have Bel_22 := Lib.hid (bel_bl (bel_al Bel_16.out (.cells #[.int .i64 i1, .int .i64 i2, .slice A1 rn c1, .string lb, .int .i64 at_] 42)) hb21)
  clear Da_16 D0_16 X_16 R_16 I_16 Rg_16 Bel_16
  clear hb21
  have z0 := R_22.out.cell (i := 0) rfl
  have z1 := R_22.out.cell (i := 1) rfl
  have z2 := R_22.out.cell (i := 2) rfl
  have f0 := R_22.out.free 0
  have f1 := R_22.out.free 1
  have f2 := R_22.out.free 2
  have HY := Lib.hid (((R_22.out.set_ 0 (.int .i64 y1)).set_ 1 (.int .i64 y2)).set_ 2 (.int .i64 y3))
  have HBz := Lib.hid (((Bel_22.out.setCell (p := ⟨w.heap.size + 1 + 1, 0, none⟩) (show w.heap.size ≤ w.heap.size + 1 + 1 by omega) (.int .i64 y1)).setCell (p := ⟨w.heap.size + 1 + 1, 1, none⟩) (show w.heap.size ≤ w.heap.size + 1 + 1 by omega) (.int .i64 y2)).setCell (p := ⟨w.heap.size + 1 + 1, 2, none⟩) (show w.heap.size ≤ w.heap.size + 1 + 1 by omega) (.int .i64 y3))
  go_wp2
  exact ret_whole2 rfl (w.heap.size + 1 + 1) rfl rfl HY.out Try.underlying39 rfl (by kernel_rfl) rfl ⟨rfl, HBz.out⟩
end Go.Proofs.Ytpindjknngcccaa
