/- IdentOrder's walk. -/
import Derived.Test.YtedihfggijcciaaIdOrd
import Derived.Deep.DeepCutAuto
namespace Go.Proofs.Ytedihfggijcciaa
open Go.RowKit

/-- What stands at each cut: the two arrays in their boxes, and all that was there as it was. -/
structure OrdIn (w : World) (s0 n0 s1 n1 s2 n2 a0 b0 c0 a1 b1 c1 a2 b2 c2 : Int) (x : World) : Prop where
  b : Below w.heap.size w x
  z : w.heap.size + 2 ≤ x.heap.size
  x0 : x.cell? ⟨w.heap.size, 0, none⟩ = some (.int .i64 s0)
  x1 : x.cell? ⟨w.heap.size, 1, none⟩ = some (.int .i64 n0)
  x2 : x.cell? ⟨w.heap.size, 2, none⟩ = some (.int .i64 s1)
  x3 : x.cell? ⟨w.heap.size, 3, none⟩ = some (.int .i64 n1)
  x4 : x.cell? ⟨w.heap.size, 4, none⟩ = some (.int .i64 s2)
  x5 : x.cell? ⟨w.heap.size, 5, none⟩ = some (.int .i64 n2)
  d0 : x.cell? ⟨w.heap.size + 1, 0, none⟩ = some (.int .i64 a0)
  d1 : x.cell? ⟨w.heap.size + 1, 1, none⟩ = some (.int .i64 b0)
  d2 : x.cell? ⟨w.heap.size + 1, 2, none⟩ = some (.int .i64 c0)
  d3 : x.cell? ⟨w.heap.size + 1, 3, none⟩ = some (.int .i64 a1)
  d4 : x.cell? ⟨w.heap.size + 1, 4, none⟩ = some (.int .i64 b1)
  d5 : x.cell? ⟨w.heap.size + 1, 5, none⟩ = some (.int .i64 c1)
  d6 : x.cell? ⟨w.heap.size + 1, 6, none⟩ = some (.int .i64 a2)
  d7 : x.cell? ⟨w.heap.size + 1, 7, none⟩ = some (.int .i64 b2)
  d8 : x.cell? ⟨w.heap.size + 1, 8, none⟩ = some (.int .i64 c2)

section
variable {w : World} {s0 n0 s1 n1 s2 n2 a0 b0 c0 a1 b1 c1 a2 b2 c2 : Int} {x y : World}
theorem OrdIn.up (h : OrdIn w s0 n0 s1 n1 s2 n2 a0 b0 c0 a1 b1 c1 a2 b2 c2 x) (hb : Below x.heap.size x y) : OrdIn w s0 n0 s1 n1 s2 n2 a0 b0 c0 a1 b1 c1 a2 b2 c2 y :=
  ⟨h.b.trans (hb.mono h.b.size), Nat.le_trans h.z hb.size, keepc hb h.x0, keepc hb h.x1, keepc hb h.x2, keepc hb h.x3, keepc hb h.x4, keepc hb h.x5, keepc hb h.d0, keepc hb h.d1, keepc hb h.d2, keepc hb h.d3, keepc hb h.d4, keepc hb h.d5, keepc hb h.d6, keepc hb h.d7, keepc hb h.d8⟩
theorem OrdIn.lt (h : OrdIn w s0 n0 s1 n1 s2 n2 a0 b0 c0 a1 b1 c1 a2 b2 c2 x) : w.heap.size < x.heap.size ∧ w.heap.size + 1 < x.heap.size := by
  have := h.z
  omega
theorem OrdIn.drew (h : OrdIn w s0 n0 s1 n1 s2 n2 a0 b0 c0 a1 b1 c1 a2 b2 c2 x) : OrdIn w s0 n0 s1 n1 s2 n2 a0 b0 c0 a1 b1 c1 a2 b2 c2 x.drew := h.up ((Below.refl _ _).drew)
end

def yes (v : Value) : Prop := v = .bool true

set_option maxRecDepth 100000 in
set_option maxHeartbeats 2000000 in
theorem law_order (s0 n0 s1 n1 s2 n2 a0 b0 c0 a1 b1 c1 a2 b2 c2 : Int) (w : World) :
    Calls Try.prog 6 #[.agg #[.int .i64 s0, .int .i64 n0, .int .i64 s1, .int .i64 n1, .int .i64 s2, .int .i64 n2], .agg #[.int .i64 a0, .int .i64 b0, .int .i64 c0, .int .i64 a1, .int .i64 b1, .int .i64 c1, .int .i64 a2, .int .i64 b2, .int .i64 c2]] w
      fun e w' => e = .returned (.bool true) ∧ Below w.heap.size w w' := by
  have H0 := Lib.hid shown_any
  have gi := ordI_bd s0 n0 s1 n1
  have Gi01 := order_any s0 n0 s1 n1
  have Gi10 := order_any s1 n1 s0 n0
  have Gi12 := order_any s1 n1 s2 n2
  have Gi02 := order_any s0 n0 s2 n2
  have Ti := ordI_trans s0 n0 s1 n1 s2 n2
  have Qi := ordI_eq s0 n0 s1 n1
  rw [ordI_neg s0 n0 s1 n1] at Gi10
  generalize ordI s0 n0 s1 n1 = i01 at *
  generalize ordI s1 n1 s2 n2 = i12 at *
  generalize ordI s0 n0 s2 n2 = i02 at *
  have HQi := Lib.hid Qi
  have HTi := Lib.hid Ti
  have hi01 := Lib.hid (fun W => Gi01 W)
  have hi10 := Lib.hid (fun W => Gi10 W)
  have hi12 := Lib.hid (fun W => Gi12 W)
  have hi02 := Lib.hid (fun W => Gi02 W)
  clear Gi01 Gi10 Gi12 Gi02 Ti Qi
  have gd := ordD_bd a0 b0 c0 a1 b1 c1
  have Gd01 := orderdart_any a0 b0 c0 a1 b1 c1
  have Gd10 := orderdart_any a1 b1 c1 a0 b0 c0
  have Gd12 := orderdart_any a1 b1 c1 a2 b2 c2
  have Gd02 := orderdart_any a0 b0 c0 a2 b2 c2
  have Td := ordD_trans a0 b0 c0 a1 b1 c1 a2 b2 c2
  have Qd := ordD_eq a0 b0 c0 a1 b1 c1
  rw [ordD_neg a0 b0 c0 a1 b1 c1] at Gd10
  generalize ordD a0 b0 c0 a1 b1 c1 = d01 at *
  generalize ordD a1 b1 c1 a2 b2 c2 = d12 at *
  generalize ordD a0 b0 c0 a2 b2 c2 = d02 at *
  have HQd := Lib.hid Qd
  have HTd := Lib.hid Td
  have hd01 := Lib.hid (fun W => Gd01 W)
  have hd10 := Lib.hid (fun W => Gd10 W)
  have hd12 := Lib.hid (fun W => Gd12 W)
  have hd02 := Lib.hid (fun W => Gd02 W)
  clear Gd01 Gd10 Gd12 Gd02 Td Qd
  go_enter Try.func6, Try.ntmps6
  go_upto_region 1 with fail
  go_cut [5] (fun s5 x => yes s5 ∧ OrdIn w s0 n0 s1 n1 s2 n2 a0 b0 c0 a1 b1 c1 a2 b2 c2 x)
  case first =>
    go_wp2_with (first | (go_at_call 9; refine (H0.out _).mono ?_; rintro e w1 ⟨rfl, hb1⟩))
    go_meet
    refine ⟨rfl, OrdIn.up (x := (w.alloc _).alloc _) ?_ hb1⟩
    exact ⟨below2 _ _ _, by simp, by simp [go_sem], by simp [go_sem], by simp [go_sem], by simp [go_sem], by simp [go_sem], by simp [go_sem], by simp [go_sem], by simp [go_sem], by simp [go_sem], by simp [go_sem], by simp [go_sem], by simp [go_sem], by simp [go_sem], by simp [go_sem], by simp [go_sem]⟩
  case rest =>
    obtain ⟨y, hI⟩ := hcut
    subst y
    go_upto_region 2 with fail
    go_cut [6] (fun sv x => yes sv ∧ OrdIn w s0 n0 s1 n1 s2 n2 a0 b0 c0 a1 b1 c1 a2 b2 c2 x)
    case first =>
      have z0 := hI.x0
      have z1 := hI.x1
      have z2 := hI.x2
      have z3 := hI.x3
      have E := eq_id s0 n0 s1 n1
      go_region_held3 (fun x => x.cell? ⟨w.heap.size, 0, none⟩ = some (.int .i64 s0) ∧ x.cell? ⟨w.heap.size, 1, none⟩ = some (.int .i64 n0) ∧ x.cell? ⟨w.heap.size, 2, none⟩ = some (.int .i64 s1) ∧ x.cell? ⟨w.heap.size, 3, none⟩ = some (.int .i64 n1) ∧ OrdIn w s0 n0 s1 n1 s2 n2 a0 b0 c0 a1 b1 c1 a2 b2 c2 x)
        (first | exact ⟨z0, z1, z2, z3, hI.drew⟩ | (go_split_ands; exact ⟨keepc k1 (by assumption), keepc k1 (by assumption), keepc k1 (by assumption), keepc k1 (by assumption), OrdIn.up (by assumption) k1⟩) | go_keep)
        (first | (go_at_call 13; (with_reducible refine (hi01.out _).mono ?_); rintro e wk1 ⟨rfl, k1⟩))
      all_goals go_wp2_with fail
      all_goals go_meet
      all_goals refine ⟨?_, by exact hI.drew.up k1⟩
      all_goals (rw [HQi.out]; simp [yes])
    case rest =>
      obtain ⟨y, hI⟩ := hcut
      subst y
      go_upto_region 3 with fail
      go_cut [7] (fun sv x => yes sv ∧ OrdIn w s0 n0 s1 n1 s2 n2 a0 b0 c0 a1 b1 c1 a2 b2 c2 x)
      case first =>
        have z0 := hI.x0
        have z1 := hI.x1
        have z2 := hI.x2
        have z3 := hI.x3
        go_region_held3 (fun x => x.cell? ⟨w.heap.size, 0, none⟩ = some (.int .i64 s0) ∧ x.cell? ⟨w.heap.size, 1, none⟩ = some (.int .i64 n0) ∧ x.cell? ⟨w.heap.size, 2, none⟩ = some (.int .i64 s1) ∧ x.cell? ⟨w.heap.size, 3, none⟩ = some (.int .i64 n1) ∧ OrdIn w s0 n0 s1 n1 s2 n2 a0 b0 c0 a1 b1 c1 a2 b2 c2 x)
          (first | exact ⟨z0, z1, z2, z3, hI.drew⟩ | (go_split_ands; exact ⟨keepc k1 (by assumption), keepc k1 (by assumption), keepc k1 (by assumption), keepc k1 (by assumption), OrdIn.up (by assumption) k1⟩) | (go_split_ands; exact ⟨keepc k2 (by assumption), keepc k2 (by assumption), keepc k2 (by assumption), keepc k2 (by assumption), OrdIn.up (by assumption) k2⟩) | go_keep)
          (first | (go_at_call 13; (with_reducible refine (hi01.out _).mono ?_); rintro e wk1 ⟨rfl, k1⟩) | (go_at_call 13; (with_reducible refine (hi10.out _).mono ?_); rintro e wk2 ⟨rfl, k2⟩))
        all_goals go_wp2_with fail
        all_goals go_meet
        all_goals refine ⟨?_, by first | exact (hI.drew.up k1).up k2 | exact (hI.drew.up k2).up k1⟩
        all_goals (simp [yes]; exact (IntWalk.i64_in _ (by omega)).symm)
      case rest =>
        obtain ⟨y, hI⟩ := hcut
        subst y
        go_upto_region 4 with fail
        go_cut [8] (fun sv x => yes sv ∧ OrdIn w s0 n0 s1 n1 s2 n2 a0 b0 c0 a1 b1 c1 a2 b2 c2 x)
        case first =>
          have z0 := hI.x0
          have z1 := hI.x1
          have z2 := hI.x2
          have z3 := hI.x3
          have z4 := hI.x4
          have z5 := hI.x5
          have hz := hI.z
          obtain ⟨hy0, hx0⟩ := hI.lt
          by_cases t1 : 0 < i01
          · go_wp2_with (first | (go_at_call 13; (with_reducible refine (hi01.out _).mono ?_); rintro e wk1 ⟨rfl, k1⟩; obtain ⟨hck1, hfk1⟩ := bcell k1; have hzk1 := Nat.le_trans hz k1.size; have hyk1 : w.heap.size < wk1.heap.size := (by omega); have hxk1 : w.heap.size + 1 < wk1.heap.size := (by omega)))
            go_meet
            exact ⟨by simp [yes], hI.up k1⟩
          · by_cases t2 : 0 < i12
            · go_wp2_with (first | (go_at_call 13; (with_reducible refine (hi01.out _).mono ?_); rintro e wk1 ⟨rfl, k1⟩; obtain ⟨hck1, hfk1⟩ := bcell k1; have hzk1 := Nat.le_trans hz k1.size; have hyk1 : w.heap.size < wk1.heap.size := (by omega); have hxk1 : w.heap.size + 1 < wk1.heap.size := (by omega)) | (go_at_call 13; (with_reducible refine (hi12.out _).mono ?_); rintro e wk2 ⟨rfl, k2⟩; obtain ⟨hck2, hfk2⟩ := bcell k2; have hzk2 := Nat.le_trans hzk1 k2.size; have hyk2 : w.heap.size < wk2.heap.size := (by omega); have hxk2 : w.heap.size + 1 < wk2.heap.size := (by omega)))
              go_meet
              exact ⟨by simp [yes], (hI.up k1).up k2⟩
            · have t3 : i02 ≤ 0 := HTi.out (by omega) (by omega)
              go_wp2_with (first | (go_at_call 13; (with_reducible refine (hi01.out _).mono ?_); rintro e wk1 ⟨rfl, k1⟩; obtain ⟨hck1, hfk1⟩ := bcell k1; have hzk1 := Nat.le_trans hz k1.size; have hyk1 : w.heap.size < wk1.heap.size := (by omega); have hxk1 : w.heap.size + 1 < wk1.heap.size := (by omega)) | (go_at_call 13; (with_reducible refine (hi12.out _).mono ?_); rintro e wk2 ⟨rfl, k2⟩; obtain ⟨hck2, hfk2⟩ := bcell k2; have hzk2 := Nat.le_trans hzk1 k2.size; have hyk2 : w.heap.size < wk2.heap.size := (by omega); have hxk2 : w.heap.size + 1 < wk2.heap.size := (by omega)) | (go_at_call 13; (with_reducible refine (hi02.out _).mono ?_); rintro e wk3 ⟨rfl, k3⟩; obtain ⟨hck3, hfk3⟩ := bcell k3; have hzk3 := Nat.le_trans hzk2 k3.size; have hyk3 : w.heap.size < wk3.heap.size := (by omega); have hxk3 : w.heap.size + 1 < wk3.heap.size := (by omega)))
              go_meet
              exact ⟨by simp [yes], ((hI.up k1).up k2).up k3⟩
        case rest =>
          obtain ⟨y, hI⟩ := hcut
          subst y
          go_upto_region 5 with fail
          go_cut [9] (fun sv x => yes sv ∧ OrdIn w s0 n0 s1 n1 s2 n2 a0 b0 c0 a1 b1 c1 a2 b2 c2 x)
          case first =>
            have z0 := hI.d0
            have z1 := hI.d1
            have z2 := hI.d2
            have z3 := hI.d3
            have z4 := hI.d4
            have z5 := hI.d5
            have E := eq_dart a0 b0 c0 a1 b1 c1
            go_region_held3 (fun x => x.cell? ⟨w.heap.size + 1, 0, none⟩ = some (.int .i64 a0) ∧ x.cell? ⟨w.heap.size + 1, 1, none⟩ = some (.int .i64 b0) ∧ x.cell? ⟨w.heap.size + 1, 2, none⟩ = some (.int .i64 c0) ∧ x.cell? ⟨w.heap.size + 1, 3, none⟩ = some (.int .i64 a1) ∧ x.cell? ⟨w.heap.size + 1, 4, none⟩ = some (.int .i64 b1) ∧ x.cell? ⟨w.heap.size + 1, 5, none⟩ = some (.int .i64 c1) ∧ OrdIn w s0 n0 s1 n1 s2 n2 a0 b0 c0 a1 b1 c1 a2 b2 c2 x)
              (first | exact ⟨z0, z1, z2, z3, z4, z5, hI.drew⟩ | (go_split_ands; exact ⟨keepc k1 (by assumption), keepc k1 (by assumption), keepc k1 (by assumption), keepc k1 (by assumption), keepc k1 (by assumption), keepc k1 (by assumption), OrdIn.up (by assumption) k1⟩) | go_keep)
              (first | (go_at_call 16; (with_reducible refine (hd01.out _).mono ?_); rintro e wk1 ⟨rfl, k1⟩))
            all_goals go_wp2_with fail
            all_goals go_meet
            all_goals refine ⟨?_, by exact hI.drew.up k1⟩
            all_goals (rw [HQd.out]; simp [yes])
          case rest =>
            obtain ⟨y, hI⟩ := hcut
            subst y
            go_upto_region 6 with fail
            go_cut [10] (fun sv x => yes sv ∧ OrdIn w s0 n0 s1 n1 s2 n2 a0 b0 c0 a1 b1 c1 a2 b2 c2 x)
            case first =>
              have z0 := hI.d0
              have z1 := hI.d1
              have z2 := hI.d2
              have z3 := hI.d3
              have z4 := hI.d4
              have z5 := hI.d5
              go_region_held3 (fun x => x.cell? ⟨w.heap.size + 1, 0, none⟩ = some (.int .i64 a0) ∧ x.cell? ⟨w.heap.size + 1, 1, none⟩ = some (.int .i64 b0) ∧ x.cell? ⟨w.heap.size + 1, 2, none⟩ = some (.int .i64 c0) ∧ x.cell? ⟨w.heap.size + 1, 3, none⟩ = some (.int .i64 a1) ∧ x.cell? ⟨w.heap.size + 1, 4, none⟩ = some (.int .i64 b1) ∧ x.cell? ⟨w.heap.size + 1, 5, none⟩ = some (.int .i64 c1) ∧ OrdIn w s0 n0 s1 n1 s2 n2 a0 b0 c0 a1 b1 c1 a2 b2 c2 x)
                (first | exact ⟨z0, z1, z2, z3, z4, z5, hI.drew⟩ | (go_split_ands; exact ⟨keepc k1 (by assumption), keepc k1 (by assumption), keepc k1 (by assumption), keepc k1 (by assumption), keepc k1 (by assumption), keepc k1 (by assumption), OrdIn.up (by assumption) k1⟩) | (go_split_ands; exact ⟨keepc k2 (by assumption), keepc k2 (by assumption), keepc k2 (by assumption), keepc k2 (by assumption), keepc k2 (by assumption), keepc k2 (by assumption), OrdIn.up (by assumption) k2⟩) | go_keep)
                (first | (go_at_call 16; (with_reducible refine (hd01.out _).mono ?_); rintro e wk1 ⟨rfl, k1⟩) | (go_at_call 16; (with_reducible refine (hd10.out _).mono ?_); rintro e wk2 ⟨rfl, k2⟩))
              all_goals go_wp2_with fail
              all_goals go_meet
              all_goals refine ⟨?_, by first | exact (hI.drew.up k1).up k2 | exact (hI.drew.up k2).up k1⟩
              all_goals (simp [yes]; exact (IntWalk.i64_in _ (by omega)).symm)
            case rest =>
              obtain ⟨y, hI⟩ := hcut
              subst y
              go_upto_region 7 with fail
              go_cut [11] (fun sv x => yes sv ∧ OrdIn w s0 n0 s1 n1 s2 n2 a0 b0 c0 a1 b1 c1 a2 b2 c2 x)
              case first =>
                have z0 := hI.d0
                have z1 := hI.d1
                have z2 := hI.d2
                have z3 := hI.d3
                have z4 := hI.d4
                have z5 := hI.d5
                have z6 := hI.d6
                have z7 := hI.d7
                have z8 := hI.d8
                have hz := hI.z
                obtain ⟨hy0, hx0⟩ := hI.lt
                by_cases t1 : 0 < d01
                · go_wp2_with (first | (go_at_call 16; (with_reducible refine (hd01.out _).mono ?_); rintro e wk1 ⟨rfl, k1⟩; obtain ⟨hck1, hfk1⟩ := bcell k1; have hzk1 := Nat.le_trans hz k1.size; have hyk1 : w.heap.size < wk1.heap.size := (by omega); have hxk1 : w.heap.size + 1 < wk1.heap.size := (by omega)))
                  go_meet
                  exact ⟨by simp [yes], hI.up k1⟩
                · by_cases t2 : 0 < d12
                  · go_wp2_with (first | (go_at_call 16; (with_reducible refine (hd01.out _).mono ?_); rintro e wk1 ⟨rfl, k1⟩; obtain ⟨hck1, hfk1⟩ := bcell k1; have hzk1 := Nat.le_trans hz k1.size; have hyk1 : w.heap.size < wk1.heap.size := (by omega); have hxk1 : w.heap.size + 1 < wk1.heap.size := (by omega)) | (go_at_call 16; (with_reducible refine (hd12.out _).mono ?_); rintro e wk2 ⟨rfl, k2⟩; obtain ⟨hck2, hfk2⟩ := bcell k2; have hzk2 := Nat.le_trans hzk1 k2.size; have hyk2 : w.heap.size < wk2.heap.size := (by omega); have hxk2 : w.heap.size + 1 < wk2.heap.size := (by omega)))
                    go_meet
                    exact ⟨by simp [yes], (hI.up k1).up k2⟩
                  · have t3 : d02 ≤ 0 := HTd.out (by omega) (by omega)
                    go_wp2_with (first | (go_at_call 16; (with_reducible refine (hd01.out _).mono ?_); rintro e wk1 ⟨rfl, k1⟩; obtain ⟨hck1, hfk1⟩ := bcell k1; have hzk1 := Nat.le_trans hz k1.size; have hyk1 : w.heap.size < wk1.heap.size := (by omega); have hxk1 : w.heap.size + 1 < wk1.heap.size := (by omega)) | (go_at_call 16; (with_reducible refine (hd12.out _).mono ?_); rintro e wk2 ⟨rfl, k2⟩; obtain ⟨hck2, hfk2⟩ := bcell k2; have hzk2 := Nat.le_trans hzk1 k2.size; have hyk2 : w.heap.size < wk2.heap.size := (by omega); have hxk2 : w.heap.size + 1 < wk2.heap.size := (by omega)) | (go_at_call 16; (with_reducible refine (hd02.out _).mono ?_); rintro e wk3 ⟨rfl, k3⟩; obtain ⟨hck3, hfk3⟩ := bcell k3; have hzk3 := Nat.le_trans hzk2 k3.size; have hyk3 : w.heap.size < wk3.heap.size := (by omega); have hxk3 : w.heap.size + 1 < wk3.heap.size := (by omega)))
                    go_meet
                    exact ⟨by simp [yes], ((hI.up k1).up k2).up k3⟩
              case rest =>
                obtain ⟨y, hI⟩ := hcut
                subst y
                go_wp2
                go_ret
                exact ⟨rfl, hI.b⟩
end Go.Proofs.Ytedihfggijcciaa
