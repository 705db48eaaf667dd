/- eachOnce: the walk. -/
import Derived.Test.YtdhglhcpgmfpoaaDg6
namespace Go.Proofs.Ytdhglhcpgmfpoaa
open Go.RowKit Go.Maps
set_option linter.unusedSimpArgs false
set_option linter.unusedVariables false

theorem wl_has_as {ops : Array Oper} {rest : List Oper} {o : Oper} {a : Act} {Q : Exit → Act → World → Prop} {w : World} (hg : o.guard = none) (m x : Operand) (hop : o.op = Op.lookup 84 m x true) (b n : Nat) (S : List D) (hm : a.eval m = .map (some b)) (hS : MapS w b n S) (d : D) (hd : wfD d) {bb : Bool} (hb : decide (d ∈ S) = bb)
    (hx : a.eval x = .agg #[.int .i64 d.1, .int .i64 d.2.1, .int .i64 d.2.2])
    (hK : wpList Try.prog ops Q rest (a.put o.dst (.tuple #[.agg #[], .bool bb])) w) : wpList Try.prog ops Q (o :: rest) a w := by
  subst hb
  exact wl_has hg m x hop b n S hm hS d hd hx hK
theorem ringsOf_cons (v : VC) (r : List VC) : ringsOf (v :: r) = v.2.1.2.2.2 ++ ringsOf r := rfl
set_option maxRecDepth 100000 in
set_option maxHeartbeats 4000000 in
theorem once_any (A : Option Addr) (n c : Nat) (Vs : List VC) (B : Option Addr) (m k : Nat) (Es : List EC) (w : World) (h : DgIn w A n c Vs B m k Es) (hn : n ≤ 1000000) (hm : m ≤ 1000000) (hr : ∀ x ∈ Vs, x.2.1.2.1 ≤ 1000000)
    (he : ∀ e ∈ Es, wfD (e.1.1, e.1.2, 0) ∧ wfD (e.1.1, e.1.2, 1)) (hv : ∀ v ∈ Vs, ∀ d ∈ v.2.1.2.2.2, wfD d) :
    Calls Try.prog 39 #[.agg #[.slice A n c, .slice B m k]] w fun e w' => e = .returned (.bool (onceF (edS Es []) (ringsOf Vs))) ∧ Below w.heap.size w w' := by
  have HV := Lib.hid h.v
  have HE := Lib.hid h.e
  have HRg := Lib.hid h.r
  have Hlv := Lib.hid (h.v.rlen vC_len (by decide))
  have Hle := Lib.hid (h.e.rlen eC_len (by decide))
  have Hhe := Lib.hid he
  have Hhv := Lib.hid hv
  have Hhr := Lib.hid hr
  obtain ⟨G, gG⟩ : ∃ x, onceF (edS Es []) (ringsOf Vs) = x := ⟨_, rfl⟩
  rw [gG]
  have HG := Lib.hid gG
  clear h he hv hr gG
  have hmm := @run_makeMap Try.prog
  go_enter Try.func39, Try.ntmps39
  go_wp2
  clear hmm
  have hBox := (Whole.new_ w 25 [.slice A n c, .slice B m k]).alloc (.map #[] 0)
  have hMap : MapS ((w.alloc (.cells #[.slice A n c, .slice B m k] 25)).alloc (.map #[] 0)) (w.heap.size + 1) 0 [] := ⟨_, by simpa using World.ownsMap_made (H := Unit) (w.alloc (.cells #[.slice A n c, .slice B m k] 25)) Try.prog 36 unitElem, SetD.empty⟩
  have hBel := below2 w (.cells #[.slice A n c, .slice B m k] 25) (.map #[] 0)
  obtain ⟨W0, gW0⟩ : ∃ z, (w.alloc (.cells #[.slice A n c, .slice B m k] 25)).alloc (.map #[] 0) = z := ⟨_, rfl⟩
  have HB0 : RowKit.Hid (Below w.heap.size w W0) := Lib.hid (by rw [← gW0]; exact hBel)
  obtain ⟨b1, gb1⟩ : ∃ z, w.heap.size + 1 = z := ⟨_, rfl⟩
  obtain ⟨b0, gb0⟩ : ∃ z, w.heap.size = z := ⟨_, rfl⟩
  rw [gW0, gb0] at hBox
  rw [gW0, gb1] at hMap
  have HBox := Lib.hid hBox
  have HMap := Lib.hid hMap
  have Gb0 := Lib.hid gb0
  have Gb1 := Lib.hid gb1
  have h01 : b0 ≠ b1 := by omega
  rw [gW0, gb1, gb0]
  clear hBox hMap hBel gW0 gb0 gb1
  go_loopw [16] (fun si wr => ∃ (j : Nat) (S : List D), j ≤ m ∧ si = .int .i64 j ∧ RowKit.Hid (MapS wr b1 (2 * j) S) ∧ RowKit.Hid (Whole wr b0 25 [.slice A n c, .slice B m k]) ∧ RowKit.Hid (Below w.heap.size w wr) ∧ RowKit.Hid (edS Es [] = edS (Es.drop j) S)) (fun si _ => m - (intOf si).toNat)
  case atStart => exact ⟨0, [], by omega, rfl, HMap, HBox, HB0, Lib.hid rfl⟩
  case round =>
    clear HBox HMap HB0
    obtain ⟨j, S, hj, rfl, HM, HW, HB, HS⟩ := hrel
    by_cases hjm : j < m
    · obtain ⟨wo, gwo⟩ : ∃ z, wr = z := ⟨_, rfl⟩
      rw [gwo] at HM HW HB ⊢
      clear gwo
      obtain ⟨v, hx⟩ : ∃ v, Es[j]? = some v := ⟨_, List.getElem?_eq_getElem (by have := Hle.out; omega)⟩
      have hdr : Es.drop j = v :: Es.drop (j + 1) := by
        rw [List.drop_eq_getElem_cons (List.getElem?_eq_some_iff.1 hx).1, (List.getElem?_eq_some_iff.1 hx).2]
      obtain ⟨hw0, hw1⟩ := Hhe.out v (List.mem_of_getElem? hx)
      have HS2 := HS.out
      rw [hdr, edS] at HS2
      have HS3 := Lib.hid HS2
      obtain ⟨bb, off, rfl, hbB, hpl⟩ := HE.out.place eC_len (by decide) (by omega)
      have hbw := HB.out
      have q0 := hpl j _ hx 0 _ rfl
      have q1 := hpl j _ hx 1 _ rfl
      have q2 := hpl j _ hx 2 _ rfl
      have q3 := hpl j _ hx 3 _ rfl
      simp only [Addr.add_lit, Nat.add_zero] at q0 q1 q2 q3
      have l0 := (hbw.cell (p := ⟨bb, off + j * 4, none⟩) hbB).trans q0
      have l1 := (hbw.cell (p := ⟨bb, off + j * 4 + 1, none⟩) hbB).trans q1
      have l2 := (hbw.cell (p := ⟨bb, off + j * 4 + 2, none⟩) hbB).trans q2
      have l3 := (hbw.cell (p := ⟨bb, off + j * 4 + 3, none⟩) hbB).trans q3
      obtain ⟨⟨i1, i2⟩, lb, at_⟩ := v
      have Hw0 := Lib.hid hw0
      have Hw1 := Lib.hid hw1
      have hne : wo.heap.size ≠ b1 := by
        have := HM.out.lt
        omega
      clear hx hdr HS2 hpl hbw q0 q1 q2 q3 hbB HS hw0 hw1
      go_wp2_with (first
        | (at_mapUpdate
           refine wl_put rfl _ _ _ rfl b1 (2 * j) S rfl (by exact HM.out.alloc _) (by unfold maxLen; omega) (i1, i2, 0) Hw0.out rfl rfl ?_
           intro w1 hm1 hg1
           have hx1 := whole_grown (Whole.new_ wo 43 [.int .i64 i1, .int .i64 i2, .string lb, .int .i64 at_]) hg1 hne
           have HW1 := Lib.hid (whole_grown (HW.out.alloc (.cells #[.int .i64 i1, .int .i64 i2, .string lb, .int .i64 at_] 43)) hg1 h01)
           have HB1 := Lib.hid (bel_grown (bel_al HB.out (.cells #[.int .i64 i1, .int .i64 i2, .string lb, .int .i64 at_] 43)) hg1 (by have := Gb1.out; omega))
           have HM1 := Lib.hid hm1
           have c0 := hx1.cell (i := 0) rfl
           have c1 := hx1.cell (i := 1) rfl
           clear hx1 hm1 hg1)
        | (at_mapUpdate
           refine wl_put rfl _ _ _ rfl b1 (2 * j + 1) _ rfl (by exact HM1.out) (by unfold maxLen; omega) (i1, i2, 1) Hw1.out rfl rfl ?_
           intro w2 hm2 hg2
           have HW2 := Lib.hid (whole_grown HW1.out hg2 h01)
           have HB2 := Lib.hid (bel_grown HB1.out hg2 (by have := Gb1.out; omega))
           have HM2 := Lib.hid (hm2.mono (show 2 * j + 1 + 1 ≤ 2 * (j + 1) by omega))
           clear hm2 hg2 c0 c1))
      go_roundw
      case rel => exact ⟨j + 1, _, by omega, by go_num, HM2, HW2, HB2, HS3⟩
      case measure => simp [intOf]; omega
    · obtain rfl : m = j := by omega
      obtain ⟨wo, gwo⟩ : ∃ z, wr = z := ⟨_, rfl⟩
      rw [gwo] at HM HW HB ⊢
      clear gwo
      have hS := HS.out
      rw [List.drop_eq_nil_of_le (by have := Hle.out; omega), edS] at hS
      have HG2 : RowKit.Hid (G = onceF S (ringsOf (Vs.drop 0))) := Lib.hid (by rw [← hS, ← HG.out]; rfl)
      have c0 := HW.out.cell (i := 0) rfl
      have c1 := HW.out.cell (i := 1) rfl
      clear hS HS HG
      go_wp2
      clear c0 c1 HW
      go_loopw [34] (fun si wr => ∃ (i : Nat) (S : List D), i ≤ n ∧ si = .int .i64 i ∧ RowKit.Hid (MapS wr b1 (2 * m) S) ∧ RowKit.Hid (Below w.heap.size w wr) ∧ RowKit.Hid (G = onceF S (ringsOf (Vs.drop i)))) (fun si _ => n - (intOf si).toNat)
      case atStart => exact ⟨0, S, by omega, rfl, HM, HB, HG2⟩
      case round =>
        clear HM HB HG2
        obtain ⟨i, S, hi, rfl, HM, HB, HG⟩ := hrel
        by_cases hin : i < n
        · obtain ⟨wo, gwo⟩ : ∃ z, wr = z := ⟨_, rfl⟩
          rw [gwo] at HM HB ⊢
          clear gwo
          obtain ⟨v, hx⟩ : ∃ v, Vs[i]? = some v := ⟨_, List.getElem?_eq_getElem (by have := Hlv.out; omega)⟩
          have hdr : Vs.drop i = v :: Vs.drop (i + 1) := by
            rw [List.drop_eq_getElem_cons (List.getElem?_eq_some_iff.1 hx).1, (List.getElem?_eq_some_iff.1 hx).2]
          have hvm := List.mem_of_getElem? hx
          have hrg := HRg.out v hvm
          have hrn := Hhr.out v hvm
          have hwf := Hhv.out v hvm
          have HG2 := HG.out
          rw [hdr, ringsOf_cons] at HG2
          have HG3 := Lib.hid HG2
          obtain ⟨bb, off, rfl, hbB, hpl⟩ := HV.out.place vC_len (by decide) (by omega)
          have hbw := HB.out
          have q0 := hpl i _ hx 0 _ rfl
          have q1 := hpl i _ hx 1 _ rfl
          have q2 := hpl i _ hx 2 _ rfl
          have q3 := hpl i _ hx 3 _ rfl
          have q4 := hpl i _ hx 4 _ rfl
          simp only [Addr.add_lit, Nat.add_zero] at q0 q1 q2 q3 q4
          have l0 := (hbw.cell (p := ⟨bb, off + i * 5, none⟩) hbB).trans q0
          have l1 := (hbw.cell (p := ⟨bb, off + i * 5 + 1, none⟩) hbB).trans q1
          have l2 := (hbw.cell (p := ⟨bb, off + i * 5 + 2, none⟩) hbB).trans q2
          have l3 := (hbw.cell (p := ⟨bb, off + i * 5 + 3, none⟩) hbB).trans q3
          have l4 := (hbw.cell (p := ⟨bb, off + i * 5 + 4, none⟩) hbB).trans q4
          obtain ⟨⟨i1, i2⟩, ⟨rA, rn, rc, rL⟩, lb, at_⟩ := v
          have hR : RdS w w.heap.size 3 rA rn rc (dartsV rL) := hrg.2
          replace hrn : rn ≤ 1000000 := hrn
          replace hwf : ∀ d ∈ rL, wfD d := hwf
          have HR := Lib.hid hR
          have Hlr := Lib.hid hR.dlen
          have Hwf := Lib.hid hwf
          obtain ⟨rest, gr⟩ : ∃ x, ringsOf (Vs.drop (i + 1)) = x := ⟨_, rfl⟩
          have HG4 : RowKit.Hid (G = onceF S (rL.drop 0 ++ rest)) := Lib.hid (by rw [← gr]; exact HG2)
          have Gr := Lib.hid gr
          have HMa := Lib.hid (HM.out.alloc (.cells #[.int .i64 i1, .int .i64 i2, .slice rA rn rc, .string lb, .int .i64 at_] 39))
          have HBa := Lib.hid (bel_al HB.out (.cells #[.int .i64 i1, .int .i64 i2, .slice rA rn rc, .string lb, .int .i64 at_] 39))
          clear hx hdr HG2 HG3 hpl hbw q0 q1 q2 q3 q4 hbB HG hvm hrg hR hwf gr
          go_wp2
          clear l0 l1 l2 l3 l4 HM HB
          go_loopw [41] (fun sj wr => ∃ (j : Nat) (S : List D), j ≤ rn ∧ sj = .int .i64 j ∧ RowKit.Hid (MapS wr b1 (2 * m) S) ∧ RowKit.Hid (Below w.heap.size w wr) ∧ RowKit.Hid (G = onceF S (rL.drop j ++ rest))) (fun sj _ => rn - (intOf sj).toNat)
          case atStart => exact ⟨0, S, by omega, rfl, HMa, HBa, HG4⟩
          case round =>
            clear HMa HBa HG4
            obtain ⟨j, S, hj, rfl, HM, HB, HG⟩ := hrel
            by_cases hjr : j < rn
            · obtain ⟨wi, gwi⟩ : ∃ z, wr = z := ⟨_, rfl⟩
              rw [gwi] at HM HB ⊢
              clear gwi
              obtain ⟨b, of2, rfl, hb, hc⟩ := (HR.out.up HB.out HB.out.size).darts (by omega)
              have hjl : j < rL.length := by have := Hlr.out; omega
              obtain ⟨d1, d2, d3⟩ := hc j hjl
              obtain ⟨x, gx⟩ : ∃ v, rL.getD j (0, 0, 0) = v := ⟨_, rfl⟩
              have gx2 : rL[j] = x := by rw [← gx, List.getD_eq_getElem?_getD, List.getElem?_eq_getElem hjl]; rfl
              have hxm : x ∈ rL := by rw [← gx2]; exact List.getElem_mem hjl
              have hdr : rL.drop j = x :: rL.drop (j + 1) := by rw [List.drop_eq_getElem_cons hjl, gx2]
              have Hx := Lib.hid (Hwf.out x hxm)
              rw [gx] at d1 d2 d3
              have HG2 := HG.out
              rw [hdr, List.cons_append, onceF] at HG2
              obtain ⟨x1, x2, x3⟩ := x
              obtain ⟨t, ht⟩ : ∃ t, decide ((x1, x2, x3) ∈ S) = t := ⟨_, rfl⟩
              have Ht := Lib.hid ht
              have HG3 := Lib.hid HG2
              clear hc hb gx gx2 hxm hdr hjl HG HG2 ht
              cases t with
              | false =>
                have hG : G = false := by
                  have := HG3.out
                  rw [if_neg (by simpa using Ht.out)] at this
                  exact this
                go_wp2_with (first
                  | (at_lookup
                     refine wl_has_as rfl _ _ rfl b1 (2 * m) S rfl (by exact HM.out.alloc _) (x1, x2, x3) Hx.out Ht.out rfl ?_))
                go_ret
                exact ⟨by first | exact rfl | (rw [hG]; rfl), by first | exact bel_al (bel_al HB.out _) _ | exact bel_al HB.out _⟩
              | true =>
                have HG4 : RowKit.Hid (G = onceF (S.erase (x1, x2, x3)) (rL.drop (j + 1) ++ rest)) := Lib.hid (by
                  have := HG3.out
                  rw [if_pos (by simpa using Ht.out)] at this
                  exact this)
                have hmem : (x1, x2, x3) ∈ S := by simpa using Ht.out
                have Hmem := Lib.hid hmem
                clear hmem
                go_wp2_with (first
                  | (at_lookup
                     refine wl_has_as rfl _ _ rfl b1 (2 * m) S rfl (by exact HM.out.alloc _) (x1, x2, x3) Hx.out Ht.out rfl ?_)
                  | (at_delete
                     refine wl_del rfl _ _ rfl b1 (2 * m) S rfl (by exact (HM.out.alloc _).alloc _) (x1, x2, x3) Hx.out Hmem.out rfl ?_
                     intro w3 hm3 hg3
                     have HM3 := Lib.hid hm3
                     have HB3 := Lib.hid (bel_grown (bel_al (bel_al HB.out _) _) hg3 (by have := Gb1.out; omega))
                     clear hm3 hg3))
                go_roundw
                case rel => exact ⟨j + 1, _, by omega, by go_num, HM3, HB3, HG4⟩
                case measure => simp [intOf]; omega
            · obtain rfl : rn = j := by omega
              have HG4 : RowKit.Hid (G = onceF S (ringsOf (Vs.drop (i + 1)))) := Lib.hid (by
                have h1 := HG.out
                rw [List.drop_eq_nil_of_le (by have := Hlr.out; omega), List.nil_append, ← Gr.out] at h1
                exact h1)
              clear HG
              go_wp2
              go_roundw
              case rel => exact ⟨i + 1, S, by omega, by go_num, HM, HB, HG4⟩
              case measure => simp [intOf]; omega
        · obtain rfl : n = i := by omega
          have hG := HG.out
          rw [List.drop_eq_nil_of_le (by have := Hlv.out; omega)] at hG
          replace hG : G = decide (S.length = 0) := hG
          clear HG
          obtain ⟨N, gN⟩ : ∃ z, S.length = z := ⟨_, rfl⟩
          rw [gN] at hG
          have HGN := Lib.hid hG
          clear hG
          go_wp2_with (first
            | (at_len
               refine wl_size rfl _ rfl b1 (2 * m) S rfl (by exact HM.out) ?_
               rw [gN]))
          go_ret
          refine ⟨?_, HB.out⟩
          rw [HGN.out]
          have e1 : ((N : Int) == 0) = decide (N = 0) := by rw [Bool.eq_iff_iff]; simp
          rw [← e1]
          rfl
end Go.Proofs.Ytdhglhcpgmfpoaa
