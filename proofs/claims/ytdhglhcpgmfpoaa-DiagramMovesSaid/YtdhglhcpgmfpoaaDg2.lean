/- What a vertex and an edge are asked: name, label, attribute; names that rise. -/
import Derived.Test.YtdhglhcpgmfpoaaDg1
import Derived.Deep.MidRow
namespace Go.Proofs.Ytdhglhcpgmfpoaa
open Go.RowKit
set_option linter.unusedSimpArgs false
set_option linter.unusedVariables false

theorem ret_whole {P : Program} {fn : Func} {R : Ending → World → Prop} {a : Act} {w : World} {p : Tmp} {t : TypeId} (h : fn.results = #[.cell p t]) (g : Nat) {t' : TypeId} {cs : List Value} {d : TypeDesc}
    (hp : a.tmps.getD p undef = .pointer (some ⟨g, 0, none⟩)) (hW : Whole w g t' cs) (hu : P.underlying t = some d) (hd : d.isRow = true) (hi : (P.info? t).map (·.size) = some cs.length)
    (hdf : a.defers = []) (hR : R (.returned (.agg cs.toArray)) w) : bodyPost P fn R .ret a w := by
  refine bodyPost_ret (v := .agg cs.toArray) ?_ hdf hR
  have hl := run_loadVar_mid (P := P) w g 0 t cs d (fun j v hv => by
    have := hW.cell hv
    simpa using this) hu hd hi
  have hp2 := hp
  rw [Array.getD_eq_getD_getElem?] at hp2
  simp [results, h, hp2, asAddr, Sem.run_bind, Result.andThen, hl]

def riseF : Option (Int × Int) → List (Int × Int) → Bool
  | _, [] => true
  | o, x :: r => mayI x.1 x.2 && (match o with | none => true | some y => decide (ordI y.1 y.2 x.1 x.2 < 0)) && riseF (some x) r
set_option maxRecDepth 100000 in
theorem nameV (v : VC) (w : World) : Calls Try.prog 35 #[.agg (vC v).toArray] w fun e w' => e = .returned (.agg #[.int .i64 v.1.1, .int .i64 v.1.2]) ∧ Below w.heap.size w w' := by
  obtain ⟨⟨i1, i2⟩, ⟨rA, rn, rc, rL⟩, lb, at_⟩ := v
  show Calls Try.prog 35 #[.agg #[.int .i64 i1, .int .i64 i2, .slice rA rn rc, .string lb, .int .i64 at_]] w _
  go_enter Try.func35, Try.ntmps35
  go_wp2
  have hW := Whole.new_ (w.alloc (.cells (#[.int .i64 i1, .int .i64 i2, .slice rA rn rc, .string lb, .int .i64 at_]) 39)) 34 [.int .i64 i1, .int .i64 i2]
  simp only [World.size_alloc] at hW
  refine ret_whole rfl (w.heap.size + 1) rfl hW Try.underlying34 rfl (by kernel_rfl) rfl ?_
  exact ⟨rfl, by first | exact below2 _ _ _ | exact (below2 _ _ _).setCell (by simp) _ | exact ((below2 _ _ _).setCell (by simp) _).setCell (by simp) _⟩
set_option maxRecDepth 100000 in
theorem labelV (v : VC) (w : World) : Calls Try.prog 41 #[.agg (vC v).toArray] w fun e w' => e = .returned (.bool (mayL v.2.2.1)) ∧ Below w.heap.size w w' := by
  obtain ⟨⟨i1, i2⟩, ⟨rA, rn, rc, rL⟩, lb, at_⟩ := v
  show Calls Try.prog 41 #[.agg #[.int .i64 i1, .int .i64 i2, .slice rA rn rc, .string lb, .int .i64 at_]] w fun e w' => e = .returned (.bool (mayL lb)) ∧ Below w.heap.size w w'
  go_enter Try.func41, Try.ntmps41
  go_wp2_with fail
  refine (maylabel_any lb _).mono ?_
  rintro e w3 ⟨rfl, hb⟩
  go_wp2
  go_ret
  exact ⟨rfl, below_after1 hb⟩
set_option maxRecDepth 100000 in
theorem attrV (v : VC) (w : World) : Calls Try.prog 44 #[.agg (vC v).toArray] w fun e w' => e = .returned (.bool (mayA v.2.2.2)) ∧ Below w.heap.size w w' := by
  obtain ⟨⟨i1, i2⟩, ⟨rA, rn, rc, rL⟩, lb, at_⟩ := v
  show Calls Try.prog 44 #[.agg #[.int .i64 i1, .int .i64 i2, .slice rA rn rc, .string lb, .int .i64 at_]] w fun e w' => e = .returned (.bool (mayA at_)) ∧ Below w.heap.size w w'
  go_enter Try.func44, Try.ntmps44
  go_wp2_with fail
  refine (mayattr_any at_ _).mono ?_
  rintro e w3 ⟨rfl, hb⟩
  go_wp2
  go_ret
  exact ⟨rfl, below_after1 hb⟩
set_option maxRecDepth 100000 in
set_option maxHeartbeats 2000000 in
theorem riseV (A : Option Addr) (n c : Nat) (Vs : List VC) (w : World) (h : RdS w w.heap.size 5 A n c (rowsV vC Vs)) (hn : n ≤ 1000000) :
    Calls Try.prog 34 #[.slice A n c, .func (.func 35) #[] #[]] w fun e w' => e = .returned (.bool (riseF none (Vs.map (·.1)))) ∧ Below w.heap.size w w' := by
  have hl := h.rlen vC_len (by decide)
  have H := Lib.hid h
  have Hl := Lib.hid hl
  clear h hl
  go_enter Try.func34, Try.ntmps34
  go_wp2
  obtain ⟨W0, gW0⟩ : ∃ z, w.alloc (.cells #[.int .i64 0, .int .i64 0] 34) = z := ⟨_, rfl⟩
  obtain ⟨b0, gb0⟩ : ∃ z, w.heap.size = z := ⟨_, rfl⟩
  have hW : Whole (w.alloc (.cells #[.int .i64 0, .int .i64 0] 34)) w.heap.size 34 [.int .i64 0, .int .i64 0] := Whole.new_ w 34 [_, _]
  have HB0 : RowKit.Hid (Below w.heap.size w W0) := Lib.hid (by rw [← gW0]; exact below1 _ _)
  rw [gW0, gb0] at hW
  have HW0 := Lib.hid hW
  have Gb0 := Lib.hid gb0
  rw [gW0, gb0]
  clear hW gW0 gb0
  go_loopw [11] (fun si wr => ∃ (j : Nat) (o : Option (Int × Int)) (la : Int × Int), j ≤ n ∧ si = .int .i64 j ∧ (o = none ↔ j = 0) ∧ (∀ y, o = some y → y = la) ∧ RowKit.Hid (Whole wr b0 34 [.int .i64 la.1, .int .i64 la.2]) ∧ RowKit.Hid (Below w.heap.size w wr) ∧ RowKit.Hid (riseF none (Vs.map (·.1)) = riseF o ((Vs.drop j).map (·.1)))) (fun si _ => n - (intOf si).toNat)
  case atStart => exact ⟨0, none, (0, 0), by omega, rfl, by simp, fun y h => (by cases h), HW0, HB0, Lib.hid rfl⟩
  case round =>
    clear HW0 HB0
    obtain ⟨j, o, la, hj, rfl, ho, hla, HW, HB, HE⟩ := hrel
    obtain ⟨la1, la2⟩ := la
    dsimp only at HW
    by_cases hjn : j < n
    · obtain ⟨wo, gwo⟩ : ∃ z, wr = z := ⟨_, rfl⟩
      rw [gwo] at HW HB ⊢
      clear gwo
      obtain ⟨v, hx⟩ : ∃ v, Vs[j]? = some v := ⟨_, List.getElem?_eq_getElem (by have := Hl.out; omega)⟩
      have hdr : (Vs.drop j).map (·.1) = v.1 :: (Vs.drop (j + 1)).map (·.1) := by
        rw [List.drop_eq_getElem_cons (List.getElem?_eq_some_iff.1 hx).1, (List.getElem?_eq_some_iff.1 hx).2]; rfl
      have HE2 := HE.out
      rw [hdr] at HE2
      have HE3 := Lib.hid HE2
      obtain ⟨bb, off, rfl, hbB, hpl⟩ := H.out.place vC_len (by decide) (by omega)
      have hbw := HB.out
      have q0 := hpl j _ hx 0 _ rfl
      have q1 := hpl j _ hx 1 _ rfl
      have q2 := hpl j _ hx 2 _ rfl
      have q3 := hpl j _ hx 3 _ rfl
      have q4 := hpl j _ hx 4 _ rfl
      simp only [Addr.add_lit, Nat.add_zero] at q0 q1 q2 q3 q4
      have l0 := (hbw.cell (p := ⟨bb, off + j * 5, none⟩) hbB).trans q0
      have l1 := (hbw.cell (p := ⟨bb, off + j * 5 + 1, none⟩) hbB).trans q1
      have l2 := (hbw.cell (p := ⟨bb, off + j * 5 + 2, none⟩) hbB).trans q2
      have l3 := (hbw.cell (p := ⟨bb, off + j * 5 + 3, none⟩) hbB).trans q3
      have l4 := (hbw.cell (p := ⟨bb, off + j * 5 + 4, none⟩) hbB).trans q4
      have HbB := Lib.hid hbB
      have hnm := fun W => nameV v W
      obtain ⟨⟨i1, i2⟩, ⟨rA, rn, rc, rL⟩, lb, at_⟩ := v
      have HNm := Lib.hid hnm
      clear hx hdr HE2 hpl hbw q0 q1 q2 q3 q4 hnm hbB HE
      go_wp2_with fail
      refine (HNm.out _).mono ?_
      rintro e w3 ⟨rfl, hb3⟩
      have HB3 : RowKit.Hid (Below w.heap.size w w3) := Lib.hid (bel_bl (bel_al HB.out _) hb3)
      have HW3 : RowKit.Hid (Whole w3 b0 34 [.int .i64 la1, .int .i64 la2]) := Lib.hid ((HW.out.below (below1 wo _)).below hb3)
      clear hb3 l0 l1 l2 l3 l4
      go_wp2_with fail
      refine (may_any i1 i2 _).mono ?_
      rintro e w4 ⟨rfl, hb4⟩
      have HB4 : RowKit.Hid (Below w.heap.size w w4) := Lib.hid (bel_bl (bel_al HB3.out _) hb4)
      have HW4 : RowKit.Hid (Whole w4 b0 34 [.int .i64 la1, .int .i64 la2]) := Lib.hid ((HW3.out.below (below1 w3 _)).below hb4)
      have HX4 : RowKit.Hid (Whole w4 w3.heap.size 34 [.int .i64 i1, .int .i64 i2]) := Lib.hid ((Whole.new_ w3 34 [.int .i64 i1, .int .i64 i2]).below hb4)
      obtain ⟨b8, gb8⟩ : ∃ z, w3.heap.size = z := ⟨_, rfl⟩
      rw [gb8] at HX4 ⊢
      have hne : b0 ≠ b8 := by
        have := HW3.out.lt
        omega
      clear hb4 gb8 HW3 HB3
      cases hm : mayI i1 i2 with
      | false =>
        have hr : riseF none (Vs.map (·.1)) = false := by rw [HE3.out]; simp [riseF, hm]
        go_wp2
        go_ret
        exact ⟨by first | exact rfl | exact (congrArg (fun b => Ending.returned (Value.bool b)) hr).symm, HB4.out⟩
      | true =>
        rcases Nat.eq_zero_or_pos j with rfl | hj0
        · obtain rfl : o = none := ho.2 rfl
          have HE4 : RowKit.Hid (riseF none (Vs.map (·.1)) = riseF (some (i1, i2)) ((Vs.drop (0 + 1)).map (·.1))) := Lib.hid (by rw [HE3.out]; simp [riseF, hm])
          have c0 := HX4.out.cell (i := 0) rfl
          have c1 := HX4.out.cell (i := 1) rfl
          have d0 := HW4.out.cell (i := 0) rfl
          have d1 := HW4.out.cell (i := 1) rfl
          have f0 := HW4.out.free 0
          have f1 := HW4.out.free 1
          have HW5 : RowKit.Hid (Whole ((w4.setCell ⟨b0, 0, none⟩ (.int .i64 i1)).setCell ⟨b0, 1, none⟩ (.int .i64 i2)) b0 34 [.int .i64 i1, .int .i64 i2]) := Lib.hid ((HW4.out.set_ 0 (.int .i64 i1)).set_ 1 (.int .i64 i2))
          have HB5 : RowKit.Hid (Below w.heap.size w ((w4.setCell ⟨b0, 0, none⟩ (.int .i64 i1)).setCell ⟨b0, 1, none⟩ (.int .i64 i2))) := Lib.hid ((HB4.out.setCell (by rw [Gb0.out]; exact Nat.le_refl _) _).setCell (by rw [Gb0.out]; exact Nat.le_refl _) _)
          rw [show ((0 : Nat) : Int) = 0 from rfl]
          go_wp2
          go_roundw
          case rel => exact ⟨0 + 1, some (i1, i2), (i1, i2), by omega, by go_num, by simp, fun y h => (Option.some.inj h).symm, HW5, HB5, HE4⟩
          case measure => simp [intOf]; omega
        · obtain ⟨y, rfl⟩ : ∃ y, o = some y := by
            cases o with
            | none => have := ho.1 rfl; omega
            | some y => exact ⟨y, rfl⟩
          obtain rfl := hla y rfl
          have c0 := HX4.out.cell (i := 0) rfl
          have c1 := HX4.out.cell (i := 1) rfl
          have d0 := HW4.out.cell (i := 0) rfl
          have d1 := HW4.out.cell (i := 1) rfl
          have e0 : decide ((0 : Int) < (j : Int)) = true := decide_eq_true (by omega)
          obtain ⟨q, gq⟩ : ∃ q, ordI la1 la2 i1 i2 = q := ⟨_, rfl⟩
          have hor := fun W => order_any la1 la2 i1 i2 W
          rw [gq] at hor
          have HOr := Lib.hid hor
          have Gq := Lib.hid gq
          clear hor gq
          go_wp2_with fail
          refine (HOr.out _).mono ?_
          rintro e w5 ⟨rfl, hb5⟩
          have HB5 : RowKit.Hid (Below w.heap.size w w5) := Lib.hid (bel_bl HB4.out hb5)
          have HW5 := Lib.hid (HW4.out.below hb5)
          have HX5 := Lib.hid (HX4.out.below hb5)
          clear hb5 c0 c1 d0 d1
          by_cases hq : 0 ≤ q
          · have u0 : decide ((0 : Int) ≤ q) = true := decide_eq_true hq
            have hr : riseF none (Vs.map (·.1)) = false := by
              rw [HE3.out]
              have h1 := Gq.out
              have : decide (ordI la1 la2 i1 i2 < 0) = false := decide_eq_false (by omega)
              simp [riseF, this]
            go_wp2
            go_ret
            exact ⟨by first | exact rfl | exact (congrArg (fun b => Ending.returned (Value.bool b)) hr).symm, HB5.out⟩
          · have u0 : decide ((0 : Int) ≤ q) = false := decide_eq_false hq
            have HE4 : RowKit.Hid (riseF none (Vs.map (·.1)) = riseF (some (i1, i2)) ((Vs.drop (j + 1)).map (·.1))) := Lib.hid (by
              rw [HE3.out]
              have h1 := Gq.out
              have : decide (ordI la1 la2 i1 i2 < 0) = true := decide_eq_true (by omega)
              simp only [riseF, hm, this, Bool.true_and])
            have c0 := HX5.out.cell (i := 0) rfl
            have c1 := HX5.out.cell (i := 1) rfl
            have d0 := HW5.out.cell (i := 0) rfl
            have d1 := HW5.out.cell (i := 1) rfl
            have f0 := HW5.out.free 0
            have f1 := HW5.out.free 1
            have HW6 : RowKit.Hid (Whole ((w5.setCell ⟨b0, 0, none⟩ (.int .i64 i1)).setCell ⟨b0, 1, none⟩ (.int .i64 i2)) b0 34 [.int .i64 i1, .int .i64 i2]) := Lib.hid ((HW5.out.set_ 0 (.int .i64 i1)).set_ 1 (.int .i64 i2))
            have HB6 : RowKit.Hid (Below w.heap.size w ((w5.setCell ⟨b0, 0, none⟩ (.int .i64 i1)).setCell ⟨b0, 1, none⟩ (.int .i64 i2))) := Lib.hid ((HB5.out.setCell (by rw [Gb0.out]; exact Nat.le_refl _) _).setCell (by rw [Gb0.out]; exact Nat.le_refl _) _)
            go_wp2
            go_roundw
            case rel => exact ⟨j + 1, some (i1, i2), (i1, i2), by omega, by go_num, by simp, fun y h => (Option.some.inj h).symm, HW6, HB6, HE4⟩
            case measure => simp [intOf]; omega
    · obtain rfl : n = j := by omega
      have hr : riseF none (Vs.map (·.1)) = true := by
        rw [HE.out, List.drop_eq_nil_of_le (by have := Hl.out; omega)]
        cases o <;> rfl
      go_wp2
      go_ret
      exact ⟨by first | exact rfl | exact (congrArg (fun b => Ending.returned (Value.bool b)) hr).symm, HB.out⟩
set_option maxRecDepth 100000 in
theorem nameE (v : EC) (w : World) : Calls Try.prog 37 #[.agg (eC v).toArray] w fun e w' => e = .returned (.agg #[.int .i64 v.1.1, .int .i64 v.1.2]) ∧ Below w.heap.size w w' := by
  obtain ⟨⟨i1, i2⟩, lb, at_⟩ := v
  show Calls Try.prog 37 #[.agg #[.int .i64 i1, .int .i64 i2, .string lb, .int .i64 at_]] w _
  go_enter Try.func37, Try.ntmps37
  go_wp2
  have hW := Whole.new_ (w.alloc (.cells (#[.int .i64 i1, .int .i64 i2, .string lb, .int .i64 at_]) 43)) 34 [.int .i64 i1, .int .i64 i2]
  simp only [World.size_alloc] at hW
  refine ret_whole rfl (w.heap.size + 1) rfl hW Try.underlying34 rfl (by kernel_rfl) rfl ?_
  exact ⟨rfl, by first | exact below2 _ _ _ | exact (below2 _ _ _).setCell (by simp) _ | exact ((below2 _ _ _).setCell (by simp) _).setCell (by simp) _⟩
set_option maxRecDepth 100000 in
theorem labelE (v : EC) (w : World) : Calls Try.prog 43 #[.agg (eC v).toArray] w fun e w' => e = .returned (.bool (mayL v.2.1)) ∧ Below w.heap.size w w' := by
  obtain ⟨⟨i1, i2⟩, lb, at_⟩ := v
  show Calls Try.prog 43 #[.agg #[.int .i64 i1, .int .i64 i2, .string lb, .int .i64 at_]] w fun e w' => e = .returned (.bool (mayL lb)) ∧ Below w.heap.size w w'
  go_enter Try.func43, Try.ntmps43
  go_wp2_with fail
  refine (maylabel_any lb _).mono ?_
  rintro e w3 ⟨rfl, hb⟩
  go_wp2
  go_ret
  exact ⟨rfl, below_after1 hb⟩
set_option maxRecDepth 100000 in
theorem attrE (v : EC) (w : World) : Calls Try.prog 45 #[.agg (eC v).toArray] w fun e w' => e = .returned (.bool (mayA v.2.2)) ∧ Below w.heap.size w w' := by
  obtain ⟨⟨i1, i2⟩, lb, at_⟩ := v
  show Calls Try.prog 45 #[.agg #[.int .i64 i1, .int .i64 i2, .string lb, .int .i64 at_]] w fun e w' => e = .returned (.bool (mayA at_)) ∧ Below w.heap.size w w'
  go_enter Try.func45, Try.ntmps45
  go_wp2_with fail
  refine (mayattr_any at_ _).mono ?_
  rintro e w3 ⟨rfl, hb⟩
  go_wp2
  go_ret
  exact ⟨rfl, below_after1 hb⟩
set_option maxRecDepth 100000 in
set_option maxHeartbeats 2000000 in
theorem riseE (A : Option Addr) (n c : Nat) (Vs : List EC) (w : World) (h : RdS w w.heap.size 4 A n c (rowsV eC Vs)) (hn : n ≤ 1000000) :
    Calls Try.prog 36 #[.slice A n c, .func (.func 37) #[] #[]] w fun e w' => e = .returned (.bool (riseF none (Vs.map (·.1)))) ∧ Below w.heap.size w w' := by
  have hl := h.rlen eC_len (by decide)
  have H := Lib.hid h
  have Hl := Lib.hid hl
  clear h hl
  go_enter Try.func36, Try.ntmps36
  go_wp2
  obtain ⟨W0, gW0⟩ : ∃ z, w.alloc (.cells #[.int .i64 0, .int .i64 0] 34) = z := ⟨_, rfl⟩
  obtain ⟨b0, gb0⟩ : ∃ z, w.heap.size = z := ⟨_, rfl⟩
  have hW : Whole (w.alloc (.cells #[.int .i64 0, .int .i64 0] 34)) w.heap.size 34 [.int .i64 0, .int .i64 0] := Whole.new_ w 34 [_, _]
  have HB0 : RowKit.Hid (Below w.heap.size w W0) := Lib.hid (by rw [← gW0]; exact below1 _ _)
  rw [gW0, gb0] at hW
  have HW0 := Lib.hid hW
  have Gb0 := Lib.hid gb0
  rw [gW0, gb0]
  clear hW gW0 gb0
  go_loopw [11] (fun si wr => ∃ (j : Nat) (o : Option (Int × Int)) (la : Int × Int), j ≤ n ∧ si = .int .i64 j ∧ (o = none ↔ j = 0) ∧ (∀ y, o = some y → y = la) ∧ RowKit.Hid (Whole wr b0 34 [.int .i64 la.1, .int .i64 la.2]) ∧ RowKit.Hid (Below w.heap.size w wr) ∧ RowKit.Hid (riseF none (Vs.map (·.1)) = riseF o ((Vs.drop j).map (·.1)))) (fun si _ => n - (intOf si).toNat)
  case atStart => exact ⟨0, none, (0, 0), by omega, rfl, by simp, fun y h => (by cases h), HW0, HB0, Lib.hid rfl⟩
  case round =>
    clear HW0 HB0
    obtain ⟨j, o, la, hj, rfl, ho, hla, HW, HB, HE⟩ := hrel
    obtain ⟨la1, la2⟩ := la
    dsimp only at HW
    by_cases hjn : j < n
    · obtain ⟨wo, gwo⟩ : ∃ z, wr = z := ⟨_, rfl⟩
      rw [gwo] at HW HB ⊢
      clear gwo
      obtain ⟨v, hx⟩ : ∃ v, Vs[j]? = some v := ⟨_, List.getElem?_eq_getElem (by have := Hl.out; omega)⟩
      have hdr : (Vs.drop j).map (·.1) = v.1 :: (Vs.drop (j + 1)).map (·.1) := by
        rw [List.drop_eq_getElem_cons (List.getElem?_eq_some_iff.1 hx).1, (List.getElem?_eq_some_iff.1 hx).2]; rfl
      have HE2 := HE.out
      rw [hdr] at HE2
      have HE3 := Lib.hid HE2
      obtain ⟨bb, off, rfl, hbB, hpl⟩ := H.out.place eC_len (by decide) (by omega)
      have hbw := HB.out
      have q0 := hpl j _ hx 0 _ rfl
      have q1 := hpl j _ hx 1 _ rfl
      have q2 := hpl j _ hx 2 _ rfl
      have q3 := hpl j _ hx 3 _ rfl
      simp only [Addr.add_lit, Nat.add_zero] at q0 q1 q2 q3
      have l0 := (hbw.cell (p := ⟨bb, off + j * 4, none⟩) hbB).trans q0
      have l1 := (hbw.cell (p := ⟨bb, off + j * 4 + 1, none⟩) hbB).trans q1
      have l2 := (hbw.cell (p := ⟨bb, off + j * 4 + 2, none⟩) hbB).trans q2
      have l3 := (hbw.cell (p := ⟨bb, off + j * 4 + 3, none⟩) hbB).trans q3
      have HbB := Lib.hid hbB
      have hnm := fun W => nameE v W
      obtain ⟨⟨i1, i2⟩, lb, at_⟩ := v
      have HNm := Lib.hid hnm
      clear hx hdr HE2 hpl hbw q0 q1 q2 q3 hnm hbB HE
      go_wp2_with fail
      refine (HNm.out _).mono ?_
      rintro e w3 ⟨rfl, hb3⟩
      have HB3 : RowKit.Hid (Below w.heap.size w w3) := Lib.hid (bel_bl (bel_al HB.out _) hb3)
      have HW3 : RowKit.Hid (Whole w3 b0 34 [.int .i64 la1, .int .i64 la2]) := Lib.hid ((HW.out.below (below1 wo _)).below hb3)
      clear hb3 l0 l1 l2 l3
      go_wp2_with fail
      refine (may_any i1 i2 _).mono ?_
      rintro e w4 ⟨rfl, hb4⟩
      have HB4 : RowKit.Hid (Below w.heap.size w w4) := Lib.hid (bel_bl (bel_al HB3.out _) hb4)
      have HW4 : RowKit.Hid (Whole w4 b0 34 [.int .i64 la1, .int .i64 la2]) := Lib.hid ((HW3.out.below (below1 w3 _)).below hb4)
      have HX4 : RowKit.Hid (Whole w4 w3.heap.size 34 [.int .i64 i1, .int .i64 i2]) := Lib.hid ((Whole.new_ w3 34 [.int .i64 i1, .int .i64 i2]).below hb4)
      obtain ⟨b8, gb8⟩ : ∃ z, w3.heap.size = z := ⟨_, rfl⟩
      rw [gb8] at HX4 ⊢
      have hne : b0 ≠ b8 := by
        have := HW3.out.lt
        omega
      clear hb4 gb8 HW3 HB3
      cases hm : mayI i1 i2 with
      | false =>
        have hr : riseF none (Vs.map (·.1)) = false := by rw [HE3.out]; simp [riseF, hm]
        go_wp2
        go_ret
        exact ⟨by first | exact rfl | exact (congrArg (fun b => Ending.returned (Value.bool b)) hr).symm, HB4.out⟩
      | true =>
        rcases Nat.eq_zero_or_pos j with rfl | hj0
        · obtain rfl : o = none := ho.2 rfl
          have HE4 : RowKit.Hid (riseF none (Vs.map (·.1)) = riseF (some (i1, i2)) ((Vs.drop (0 + 1)).map (·.1))) := Lib.hid (by rw [HE3.out]; simp [riseF, hm])
          have c0 := HX4.out.cell (i := 0) rfl
          have c1 := HX4.out.cell (i := 1) rfl
          have d0 := HW4.out.cell (i := 0) rfl
          have d1 := HW4.out.cell (i := 1) rfl
          have f0 := HW4.out.free 0
          have f1 := HW4.out.free 1
          have HW5 : RowKit.Hid (Whole ((w4.setCell ⟨b0, 0, none⟩ (.int .i64 i1)).setCell ⟨b0, 1, none⟩ (.int .i64 i2)) b0 34 [.int .i64 i1, .int .i64 i2]) := Lib.hid ((HW4.out.set_ 0 (.int .i64 i1)).set_ 1 (.int .i64 i2))
          have HB5 : RowKit.Hid (Below w.heap.size w ((w4.setCell ⟨b0, 0, none⟩ (.int .i64 i1)).setCell ⟨b0, 1, none⟩ (.int .i64 i2))) := Lib.hid ((HB4.out.setCell (by rw [Gb0.out]; exact Nat.le_refl _) _).setCell (by rw [Gb0.out]; exact Nat.le_refl _) _)
          rw [show ((0 : Nat) : Int) = 0 from rfl]
          go_wp2
          go_roundw
          case rel => exact ⟨0 + 1, some (i1, i2), (i1, i2), by omega, by go_num, by simp, fun y h => (Option.some.inj h).symm, HW5, HB5, HE4⟩
          case measure => simp [intOf]; omega
        · obtain ⟨y, rfl⟩ : ∃ y, o = some y := by
            cases o with
            | none => have := ho.1 rfl; omega
            | some y => exact ⟨y, rfl⟩
          obtain rfl := hla y rfl
          have c0 := HX4.out.cell (i := 0) rfl
          have c1 := HX4.out.cell (i := 1) rfl
          have d0 := HW4.out.cell (i := 0) rfl
          have d1 := HW4.out.cell (i := 1) rfl
          have e0 : decide ((0 : Int) < (j : Int)) = true := decide_eq_true (by omega)
          obtain ⟨q, gq⟩ : ∃ q, ordI la1 la2 i1 i2 = q := ⟨_, rfl⟩
          have hor := fun W => order_any la1 la2 i1 i2 W
          rw [gq] at hor
          have HOr := Lib.hid hor
          have Gq := Lib.hid gq
          clear hor gq
          go_wp2_with fail
          refine (HOr.out _).mono ?_
          rintro e w5 ⟨rfl, hb5⟩
          have HB5 : RowKit.Hid (Below w.heap.size w w5) := Lib.hid (bel_bl HB4.out hb5)
          have HW5 := Lib.hid (HW4.out.below hb5)
          have HX5 := Lib.hid (HX4.out.below hb5)
          clear hb5 c0 c1 d0 d1
          by_cases hq : 0 ≤ q
          · have u0 : decide ((0 : Int) ≤ q) = true := decide_eq_true hq
            have hr : riseF none (Vs.map (·.1)) = false := by
              rw [HE3.out]
              have h1 := Gq.out
              have : decide (ordI la1 la2 i1 i2 < 0) = false := decide_eq_false (by omega)
              simp [riseF, this]
            go_wp2
            go_ret
            exact ⟨by first | exact rfl | exact (congrArg (fun b => Ending.returned (Value.bool b)) hr).symm, HB5.out⟩
          · have u0 : decide ((0 : Int) ≤ q) = false := decide_eq_false hq
            have HE4 : RowKit.Hid (riseF none (Vs.map (·.1)) = riseF (some (i1, i2)) ((Vs.drop (j + 1)).map (·.1))) := Lib.hid (by
              rw [HE3.out]
              have h1 := Gq.out
              have : decide (ordI la1 la2 i1 i2 < 0) = true := decide_eq_true (by omega)
              simp only [riseF, hm, this, Bool.true_and])
            have c0 := HX5.out.cell (i := 0) rfl
            have c1 := HX5.out.cell (i := 1) rfl
            have d0 := HW5.out.cell (i := 0) rfl
            have d1 := HW5.out.cell (i := 1) rfl
            have f0 := HW5.out.free 0
            have f1 := HW5.out.free 1
            have HW6 : RowKit.Hid (Whole ((w5.setCell ⟨b0, 0, none⟩ (.int .i64 i1)).setCell ⟨b0, 1, none⟩ (.int .i64 i2)) b0 34 [.int .i64 i1, .int .i64 i2]) := Lib.hid ((HW5.out.set_ 0 (.int .i64 i1)).set_ 1 (.int .i64 i2))
            have HB6 : RowKit.Hid (Below w.heap.size w ((w5.setCell ⟨b0, 0, none⟩ (.int .i64 i1)).setCell ⟨b0, 1, none⟩ (.int .i64 i2))) := Lib.hid ((HB5.out.setCell (by rw [Gb0.out]; exact Nat.le_refl _) _).setCell (by rw [Gb0.out]; exact Nat.le_refl _) _)
            go_wp2
            go_roundw
            case rel => exact ⟨j + 1, some (i1, i2), (i1, i2), by omega, by go_num, by simp, fun y h => (Option.some.inj h).symm, HW6, HB6, HE4⟩
            case measure => simp [intOf]; omega
    · obtain rfl : n = j := by omega
      have hr : riseF none (Vs.map (·.1)) = true := by
        rw [HE.out, List.drop_eq_nil_of_le (by have := Hl.out; omega)]
        cases o <;> rfl
      go_wp2
      go_ret
      exact ⟨by first | exact rfl | exact (congrArg (fun b => Ending.returned (Value.bool b)) hr).symm, HB.out⟩
end Go.Proofs.Ytdhglhcpgmfpoaa
