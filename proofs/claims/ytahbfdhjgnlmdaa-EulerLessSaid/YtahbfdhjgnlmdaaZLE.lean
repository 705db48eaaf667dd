/- Several texts in one. -/
import Derived.Test.YtahbfdhjgnlmdaaZLD
import Derived.ProofKit
import Derived.Below
import Derived.Carry
import Derived.WideKeyArgs
import Derived.OpenShut
import Derived.Deep.Slices
import Derived.Test.YtahbfdhjgnlmdaaProg
import Derived.KernelRfl
import Derived.Test.YtahbfdhjgnlmdaaZLA
import Derived.Test.YtahbfdhjgnlmdaaZLC
import Derived.SizedLaws
import Derived.Test.YtahbfdhjgnlmdaaZLB

/- comp.Parts, comp.Count. -/
namespace Go.Proofs.Ytahbfdhjgnlmdaa
open Go.RowKit Go.Maps
set_option linter.unusedSimpArgs false
set_option linter.unusedVariables false


def keyI : KeyK Try.prog 3 Int where
  enc x := .int .i64 x
  kl x := .int .i64 x
  wf x := (Lit.int .i64 x).wf = true
  keyed := int_keyed Try.underlying3 
  key x hx := keyOf_int_mk Try.underlying3 hx
  inj x y _ _ h := by injection h
  lit x hx := (int_keyed Try.underlying3).key (keyOf_int_mk Try.underlying3 hx)
theorem info_rowI : (Try.prog.info? 60).map (fun i => (i.zero, i.size, i.bytes)) = some (some (.slice none 0 0), 1, 24) := by kernel_rfl
theorem info_idI : (Try.prog.info? 31).map (fun i => (i.zero, i.size, i.bytes)) = some (some (.agg #[.int .i64 0, .int .i64 0]), 2, 16) := by kernel_rfl
abbrev PtIn (W : World) (lo : Nat) (A : Option Addr) (n c : Nat) (X : List (Rw I2)) : Prop := RowsIn W lo 60 31 2 idC A n c X
theorem plcV_nil (L : List Int) : plcV L 0 = fun _ => none := by
  funext x
  unfold plcV plcF
  rw [if_neg (by omega)]
  rfl
theorem plcV_put {W : World} {b n j : Nat} {L : List Int} (hb : rootB L j = true) (h : MapF W keyI b n (fun y => if y = (j : Int) then some (.int .i64 ((rk L j : Nat) : Int)) else plcV L j y)) : MapF W keyI b n (plcV L (j + 1)) := by
  have e : plcV L (j + 1) = (fun y => if y = (j : Int) then some (Value.int .i64 ((rk L j : Nat) : Int)) else plcV L j y) := by
    funext y
    unfold plcV
    rw [← plcF_root hb]
    simp only
    split <;> rfl
  rw [e]
  exact h
theorem plcV_no {j : Nat} {L : List Int} (hb : rootB L j = false) : plcV L (j + 1) = plcV L j := by
  unfold plcV
  rw [plcF_no hb]
theorem wf_nat (n : Nat) (h : n ≤ 1000000) : keyI.wf (n : Int) := by
  have e1 : IntKind.i64.min = -9223372036854775808 := by decide
  have e2 : IntKind.i64.max = 9223372036854775807 := by decide
  show (Lit.int .i64 (n : Int)).wf = true
  simp only [Lit.wf, e1, e2, Bool.and_eq_true, decide_eq_true_eq]
  omega
theorem idC_one (x : I2) : ∀ u ∈ idC x, u.oneCell' = true := by simp [idC, Value.oneCell']
theorem partsJ_up (L : List Int) (N : Nat → I2) (X : List (Rw I2)) (j : Nat) (h : X.map (·.2.2) = partsJ L N j) : X.length = rk L j := by
  have := congrArg List.length h
  rwa [List.length_map, partsJ_len] at this
theorem own_lo {W : World} {B B' n : Nat} {e : TypeId} {size : Nat} {v : Value} {xs : List Value} (h : W.ownsRow B e size v n xs) (hB : B' ≤ B) : W.ownsRow B' e size v n xs := by
  refine ⟨h.1, ?_⟩
  rcases h.2 with hn | ⟨g, cap, cur, h1, hb, rest⟩
  · exact .inl hn
  · exact .inr ⟨g, cap, cur, h1, Nat.le_trans hB hb, rest⟩
theorem map_set_ (X : List (Rw I2)) (p : Nat) (y : Rw I2) : (X.set p y).map (·.2.2) = (X.map (·.2.2)).set p y.2.2 := by rw [List.map_set]
set_option maxRecDepth 100000 in
set_option maxHeartbeats 4000000 in
theorem parts_any (A : Option Addr) (n c : Nat) (Vs : List VC) (B : Option Addr) (m k : Nat) (Es : List EC) (w : World) (h : DgIn w A n c Vs B m k Es) (hn : n ≤ 1000000) (hr : ∀ x ∈ Vs, x.2.1.2.1 ≤ 1000000) (hv : ∀ v ∈ Vs, ∀ d ∈ v.2.1.2.2.2, wfD d) :
    Calls Try.prog 63 #[.agg #[.slice A n c, .slice B m k]] w fun e w' => ∃ A2 c2 X, e = .returned (.slice A2 (cntF (labF Vs)) c2) ∧ PtIn w' w.heap.size A2 (cntF (labF Vs)) c2 X ∧ X.map (·.2.2) = partsF Vs ∧ Below w.heap.size w w' := by
  have HV := Lib.hid h.v
  have Hlv := Lib.hid (h.v.rlen vC_len (by decide))
  have HDa := Lib.hid h
  obtain ⟨i1I, hi1, hz01, hz11, hz21⟩ := info_partsD info_idI
  obtain ⟨i2I, hi2, hz02, hz12, hz22⟩ := info_partsD info_rowI
  obtain ⟨R, gR⟩ : ∃ z, partsF Vs = z := ⟨_, rfl⟩
  have hcn : cntF (labF Vs) = rk (labF Vs) n := by rw [cntF, labF_len, Hlv.out]; rfl
  rw [gR, hcn]
  unfold partsF at gR
  have hLok := labF_ok Vs
  have hll := labF_len Vs
  obtain ⟨L, gL⟩ : ∃ z, labF Vs = z := ⟨_, rfl⟩
  rw [gL] at gR hLok hll ⊢
  rw [Hlv.out] at gR hll
  have HLok := Lib.hid hLok
  have HLl := Lib.hid hll
  have HR0 := Lib.hid gR
  have HLb : RowKit.Hid (∀ W, DgIn W A n c Vs B m k Es → Calls Try.prog 82 #[.agg #[.slice A n c, .slice B m k]] W fun e w' => ∃ g, e = .returned (.slice (some ⟨g, 0, none⟩) n n) ∧ w'.ownsRow W.heap.size 3 1 (.slice (some ⟨g, 0, none⟩) n n) n (rowsV n1 L) ∧ Below W.heap.size W w') := Lib.hid (fun W h => by
    refine (labels_any A n c Vs B m k Es W h hn hr hv).mono ?_
    rintro e w' ⟨g, rfl, ho, hb⟩
    rw [gL] at ho
    exact ⟨g, rfl, ho, hb⟩)
  clear h hr hv gR gL hcn hLok hll
  have hmm := @run_makeMap Try.prog
  go_enter Try.func63, Try.ntmps63
  go_upto_region 1 with fail
  have hx0 : Whole (w.alloc (.cells #[.slice A n c, .slice B m k] 25)) (w.heap.size) 25 [.slice A n c, .slice B m k] := (Whole.new_ w 25 [.slice A n c, .slice B m k])
  have hbl : Below w.heap.size w (w.alloc (.cells #[.slice A n c, .slice B m k] 25)) := (below1 w (.cells #[.slice A n c, .slice B m k] 25))
  have hsz : w.heap.size + 1 ≤ ((w.alloc (.cells #[.slice A n c, .slice B m k] 25))).heap.size := by simp
  obtain ⟨W0, gW0⟩ : ∃ z, (w.alloc (.cells #[.slice A n c, .slice B m k] 25)) = z := ⟨_, rfl⟩
  rw [gW0] at hx0 hbl hsz
  obtain ⟨b0, gb0⟩ : ∃ z, w.heap.size = z := ⟨_, rfl⟩
  rw [gb0] at hx0
  have HX0 := Lib.hid hx0
  have HB0 := Lib.hid hbl
  have HS0 := Lib.hid hsz
  have Gb0 := Lib.hid gb0
  have Lb0 : RowKit.Hid (w.heap.size ≤ b0) := Lib.hid (by omega)
  rw [gW0, gb0]
  clear gW0 hbl hsz hx0 gb0
  have HDb := Lib.hid ((HDa.out.bl HB0.out).al (.map #[] 0))
  have HX1 := Lib.hid (HX0.out.al (.map #[] 0))
  have HB1 := Lib.hid (bel_al HB0.out (.map #[] 0))
  have HM1 : RowKit.Hid (MapF (W0.alloc (.map #[] 0)) keyI W0.heap.size 0 (plcV L 0)) := Lib.hid (by rw [plcV_nil]; exact MapF.made)
  have hbm0 : b0 < W0.heap.size := HX0.out.lt
  have hbm1 : W0.heap.size < (W0.alloc (.map #[] 0)).heap.size := by simp
  have hbm2 : w.heap.size ≤ b0 := Lb0.out
  have c0 := HX1.out.cell (i := 0) rfl
  have c1 := HX1.out.cell (i := 1) rfl
  go_wp2_with fail
  clear hmm c0 c1
  obtain ⟨W1, gW1⟩ : ∃ z, W0.alloc (.map #[] 0) = z := ⟨_, rfl⟩
  obtain ⟨bm, gbm⟩ : ∃ z, W0.heap.size = z := ⟨_, rfl⟩
  rw [gW1] at HDb HX1 HB1 HM1 hbm1 ⊢
  rw [gbm] at HM1 hbm0 hbm1 ⊢
  clear gW1 gbm HX0 HB0 HS0
  refine (HLb.out _ HDb.out).mono ?_
  rintro e w3 ⟨gl, rfl, hol, hb3⟩
  obtain ⟨lo, glo⟩ : ∃ z, w3.heap.size = z := ⟨_, rfl⟩
  have HX3 := Lib.hid (HX1.out.bl hb3)
  have HM3 := Lib.hid (HM1.out.bl hb3)
  have HB3 := Lib.hid (bel_bl HB1.out hb3)
  have Hgl : RowKit.Hid (bm < gl ∧ gl < lo) := Lib.hid (by have h1 := own_lt hol rfl; have h2 : W1.heap.size ≤ gl ∧ gl < w3.heap.size := h1; omega)
  have Hbm : RowKit.Hid (b0 < bm ∧ bm < lo) := Lib.hid (by have := Hgl.out; omega)
  have Hb0 : RowKit.Hid (w.heap.size ≤ b0) := Lib.hid hbm2
  have Hlo : RowKit.Hid (lo = w3.heap.size) := Lib.hid glo.symm
  have HOl : RowKit.Hid (RdS w3 w3.heap.size 1 (some ⟨gl, 0, none⟩) n n (rowsV n1 L)) := Lib.hid (own_rds hol)
  have HK3 : RowKit.Hid (Kept (fun i => i = bm ∨ lo ≤ i) w3 w3) := Lib.hid (Kept.refl _ _)
  have HP3 : RowKit.Hid (PtIn w3 lo none 0 0 []) := Lib.hid (RowsIn.nil_ _ _)
  clear hol hb3 HDb HX1 HB1 HM1 hbm0 hbm1 hbm2 HDa HLb glo
  go_wp2
  go_loopw [3, 12] (fun sl si wr => ∃ (j : Nat) (A2 : Option Addr) (c2 : Nat) (X : List (Rw I2)), j ≤ n ∧ si = .int .i64 j ∧ sl = .slice A2 (rk L j) c2 ∧ RowKit.Hid (Kept (fun i => i = bm ∨ lo ≤ i) w3 wr) ∧ RowKit.Hid (MapF wr keyI bm j (plcV L j)) ∧ RowKit.Hid (PtIn wr lo A2 (rk L j) c2 X) ∧ RowKit.Hid (X.map (·.2.2) = partsJ L (nmV Vs) j)) (fun _ si _ => n - (intOf si).toNat)
  case atStart => exact ⟨0, none, 0, [], by omega, rfl, rfl, HK3, HM3, HP3, Lib.hid rfl⟩
  case round =>
    clear HK3 HM3 HP3
    obtain ⟨j, A2, c2, X, hj, rfl, rfl, HK, HM, HP, HXm⟩ := hrel
    obtain ⟨wo, gwo⟩ : ∃ z, wr = z := ⟨_, rfl⟩
    rw [gwo] at HK HM HP ⊢
    clear gwo
    by_cases hjn : j < n
    · obtain ⟨v, hx⟩ : ∃ v, Vs[j]? = some v := ⟨_, List.getElem?_eq_getElem (by have := Hlv.out; omega)⟩
      have hnm : nmV Vs j = v.1 := by
        unfold nmV
        rw [List.getD_eq_getElem?_getD, List.getElem?_map, hx]
        rfl
      have hjL : j < L.length := by have := HLl.out; omega
      obtain ⟨l, hlj⟩ : ∃ l : Nat, L.getD j 0 = (l : Int) := ⟨(L.getD j 0).toNat, by have := (HLok.out j hjL).1; omega⟩
      have hlle : l ≤ j := by have := (HLok.out j hjL).2.1; omega
      have hcl : wo.cell? ⟨gl, j, none⟩ = some (.int .i64 (l : Int)) := by
        have h1 := rds_n1 HOl.out HLl.out hjn
        rw [hlj] at h1
        exact HK.out.cell h1 (by have := Hbm.out; have := Hgl.out; rintro (h | h) <;> (simp only at h; omega))
      obtain ⟨bb, off, rfl, hbB, hpl⟩ := HV.out.place vC_len (by decide) (by omega)
      have hbw := HB3.out
      have q0 := hpl j _ hx 0 _ rfl
      have q1 := hpl j _ hx 1 _ rfl
      have q2 := hpl j _ hx 2 _ rfl
      have q3 := hpl j _ hx 3 _ rfl
      have q4 := hpl j _ hx 4 _ rfl
      simp only [Addr.add_lit, Nat.add_zero] at q0 q1 q2 q3 q4
      have l0 := (hbw.cell (p := ⟨bb, off + j * 5, none⟩) hbB).trans q0
      have l1 := (hbw.cell (p := ⟨bb, off + j * 5 + 1, none⟩) hbB).trans q1
      have l2 := (hbw.cell (p := ⟨bb, off + j * 5 + 2, none⟩) hbB).trans q2
      have l3 := (hbw.cell (p := ⟨bb, off + j * 5 + 3, none⟩) hbB).trans q3
      have l4 := (hbw.cell (p := ⟨bb, off + j * 5 + 4, none⟩) hbB).trans q4
      clear hbw q0 q1 q2 q3 q4
      obtain ⟨⟨i1, i2⟩, ⟨rA, rn, rc, rL⟩, lb, at_⟩ := v
      replace hnm : nmV Vs j = (i1, i2) := hnm
      have q0 : w3.cell? ⟨bb, off + j * 5, none⟩ = some (.int .i64 i1) := l0
      have q1 : w3.cell? ⟨bb, off + j * 5 + 1, none⟩ = some (.int .i64 i2) := l1
      have Hbb : RowKit.Hid (bb < w.heap.size) := Lib.hid hbB
      clear l0 l1 l2 l3 l4 hx hbB hpl
      have hkj : rk L j ≤ j := by rw [rk]; have := List.countP_le_length (p := rootB L) (l := List.range j); simpa using this
      by_cases hlr : l = j
      · obtain rfl : j = l := hlr.symm
        have hb : rootB L j = true := by rw [rootB, hlj]; simp
        have hXN := parts_root HLok.out (nmV Vs) hjL hlj
        rw [hnm, ← HXm.out] at hXN
        have hlen := partsJ_up L (nmV Vs) X j HXm.out
        have hrs : rk L (j + 1) = rk L j + 1 := by rw [rk_succ, hb]; rfl
        have HrS := Lib.hid hrs
        have ht : ((j : Int) == j) = true := by simp
        obtain ⟨p, gp⟩ : ∃ z, rk L j = z := ⟨_, rfl⟩
        have HGp := Lib.hid gp
        have hwl := wf_nat j (by omega)
        have HMm := HM
        rw [gp] at HP hlen hrs hXN hkj
        rw [gp]
        go_upto_region 7 with fail
        refine wp_region_lit ?_
        refine wl_read (v := ?_) (some 20) rfl (by rfl) ?_ ?_
        rotate_left
        · go_simp; (try with_reducible rfl)
        simp only [Act.put, List.setIfInBounds_toArray, List.set_cons_zero, List.set_cons_succ]
        refine wl_read (v := ?_) (some 21) rfl (by rfl) ?_ ?_
        rotate_left
        · go_simp; (try with_reducible rfl)
        simp only [Act.put, List.setIfInBounds_toArray, List.set_cons_zero, List.set_cons_succ]
        refine wl_read (v := ?_) (some 22) rfl (by rfl) ?_ ?_
        rotate_left
        · go_simp; (try with_reducible rfl)
        simp only [Act.put, List.setIfInBounds_toArray, List.set_cons_zero, List.set_cons_succ]
        refine wl_read (v := ?_) (some 23) rfl (by rfl) ?_ ?_
        rotate_left
        · go_simp; (try with_reducible rfl)
        simp only [Act.put, List.setIfInBounds_toArray, List.set_cons_zero, List.set_cons_succ]
        have hcnt : j < maxLen := by unfold maxLen; omega
        refine wl_mapPut rfl _ _ _ rfl rfl HM.out Try.underlying119 hcnt hwl rfl rfl ?_
        intro w5 hm5 hg5
        have HM5 : RowKit.Hid (MapF w5 keyI bm (j + 1) (plcV L (j + 1))) := Lib.hid (plcV_put hb (by rw [gp]; exact hm5))
        have HK5 : RowKit.Hid (Kept (fun i => i = bm ∨ lo ≤ i) w3 w5) := Lib.hid (HK.out.trans ⟨hg5.os, hg5.tape, hg5.output, hg5.size, fun i hi hne => hg5.block i hi (fun q => hne (.inl (Option.some.inj q)))⟩)
        have HP5 : RowKit.Hid (PtIn w5 lo A2 p c2 X) := Lib.hid (HP.out.far hg5 (fun g q e => by have h1 := (HP.out.row.lt g e).1; have := Option.some.inj q; have := Hbm.out; omega) (fun x hxm g q e => by have h1 := ((HP.out.one x hxm).lt g e).1; have := Option.some.inj q; have := Hbm.out; omega))
        clear hm5 hg5 hcnt hwl HM HMm HK HP hcl
        simp only [Act.put, List.setIfInBounds_toArray, List.set_cons_zero, List.set_cons_succ]
        go_upto_region 8 with fail
        refine wp_region_lit ?_
        refine wl_read (v := ?_) (some 24) rfl (by rfl) ?_ ?_
        rotate_left
        · go_simp; (try with_reducible rfl)
        simp only [Act.put, List.setIfInBounds_toArray, List.set_cons_zero, List.set_cons_succ]
        refine wl_buildSlice (some 25) rfl (by rfl) 102 60 1 #[(0, .const (.slice none 0 0))] (by rfl) Try.underlying102 #[.slice none 0 0] (by kernel_rfl) ?_
        simp only [Act.put, List.setIfInBounds_toArray, List.set_cons_zero, List.set_cons_succ]
        have HL6 : RowKit.Hid (RdS (w5.alloc (.cells #[.slice none 0 0] 60)) (w5.alloc (.cells #[.slice none 0 0] 60)).heap.size 1 (some ⟨w5.heap.size, 0, none⟩) 1 1 [.slice none 0 0]) := Lib.hid (RdS.of_whole (cs := [.slice none 0 0]) (Whole.new_ _ _ _) rfl)
        obtain ⟨A3, c3, w6, hrun, hp6, hb6, hg6⟩ := (HP5.out.al (.cells #[.slice none 0 0] 60)).push_nil (P := Try.prog) 102 102 i2I _ Try.underlying102 hi2 hz02 hz12 hz22 rfl (by decide) (by omega) (by have := Hlo.out; have := HK5.out.size; simp; omega) _ _ _ HL6.out
        refine wl_run (some 26) rfl (by rfl) (exec_append (by rfl) (by rfl) (by rfl) hrun) ?_
        simp only [Act.put, List.setIfInBounds_toArray, List.set_cons_zero, List.set_cons_succ]
        have hlt6 : ∀ g, (Value.slice A2 p c2).ownBlock = some g → lo ≤ g := fun g e => (HP5.out.row.lt g e).1
        have HM6 := Lib.hid ((HM5.out.al (.cells #[.slice none 0 0] 60)).grown hg6 (fun q => by have := hlt6 bm q.symm; have := Hbm.out; omega))
        have HK6 : RowKit.Hid (Kept (fun i => i = bm ∨ lo ≤ i) w3 w6) := Lib.hid ((HK5.out.alloc (.cells #[.slice none 0 0] 60)).trans ⟨hg6.os, hg6.tape, hg6.output, hg6.size, fun i hi hne => hg6.block i hi (fun q => hne (.inr (hlt6 i q.symm)))⟩)
        have HP6 : RowKit.Hid (PtIn w6 lo A3 (p + 1) c3 (X ++ [(none, 0, [])])) := Lib.hid hp6
        clear hrun hp6 hb6 hg6 hlt6 HL6 HP5 HK5 HM5
        go_upto_region 9 with fail
        refine wp_region_lit ?_
        refine wl_read (v := ?_) (some 27) rfl (by rfl) ?_ ?_
        rotate_left
        · go_simp; (try with_reducible rfl)
        simp only [Act.put, List.setIfInBounds_toArray, List.set_cons_zero, List.set_cons_succ]
        refine wl_read (v := ?_) (some 28) rfl (by rfl) ?_ ?_
        rotate_left
        · go_simp; (try with_reducible rfl)
        simp only [Act.put, List.setIfInBounds_toArray, List.set_cons_zero, List.set_cons_succ]
        refine wl_mapGet rfl _ _ rfl rfl HM6.out Try.underlying119 (zero_intK _) (x := (j : Int)) (wf_nat j (by omega)) rfl ?_
        have hpl : (plcV L (j + 1) (j : Int)).getD (.int .i64 0) = .int .i64 (p : Int) := by
          unfold plcV
          rw [plcF_more (Nat.lt_succ_self j) hb, gp]
          rfl
        rw [hpl]
        simp only [Act.put, List.setIfInBounds_toArray, List.set_cons_zero, List.set_cons_succ]
        have hx : (X ++ [((none, 0, []) : Rw I2)])[p]? = some (none, 0, []) := by
          rw [← hlen, List.getElem?_append_right (Nat.le_refl _), Nat.sub_self]
          rfl
        have HXN : RowKit.Hid (∀ A8 c8, ((X ++ [((none, 0, []) : Rw I2)]).set p (A8, c8, [(i1, i2)])).map (·.2.2) = partsJ L (nmV Vs) (j + 1)) := Lib.hid (fun A8 c8 => by rw [map_set_, List.map_append, hXN]; rfl)
        have hpn : p < p + 1 := by omega
        obtain ⟨x, gx⟩ : ∃ z, ((none, 0, []) : Rw I2) = z := ⟨_, rfl⟩
        have hxl : x.2.2.length ≤ 1000000 := by rw [← gx]; simp
        have HGx : RowKit.Hid (x.2.2 = []) := Lib.hid (by rw [← gx])
        rw [gx] at hx HXN HP6
        obtain ⟨X2, gX2⟩ : ∃ z, X ++ [x] = z := ⟨_, rfl⟩
        rw [gX2] at hx HXN HP6
        clear gx gX2 hXN hlen hpl HXm hnm hlj hjL hb gp
        obtain ⟨wo, gwo⟩ : ∃ z, w6 = z := ⟨_, rfl⟩
        rw [gwo] at HM6 HK6 HP6 ⊢
        clear gwo
        have HR := HP6
        have HKo := HK6
        have HMo := HM6
        obtain ⟨n2, gn2⟩ : ∃ z, p + 1 = z := ⟨_, rfl⟩
        have HG2 := Lib.hid gn2
        rw [gn2] at HR hpn ⊢
        clear gn2 HP6 HK6 HM6
        obtain ⟨A2, gA2⟩ : ∃ z, A3 = z := ⟨_, rfl⟩
        obtain ⟨c2, gc2⟩ : ∃ z, c3 = z := ⟨_, rfl⟩
        rw [gA2, gc2] at HR ⊢
        clear gA2 gc2
        obtain ⟨X, gX⟩ : ∃ z, X2 = z := ⟨_, rfl⟩
        rw [gX] at HR HXN hx
        clear gX
        obtain ⟨g2, junk2, eA2, hg2, hw2, hc2, hf2, -⟩ := own_poke (i := 0) (y := x) (u := rwV x) rwC_len HR.out.row hx hpn (by decide) rfl
        subst eA2
        simp only [Nat.mul_one, Nat.add_zero] at hc2
        replace hc2 : wo.cell? ⟨g2, p, none⟩ = some (rwV x) := hc2
        have hxm := List.mem_of_getElem? hx
        have hob : ∀ i, some i = (rwV x).ownBlock → lo ≤ i := fun i hi => ((HR.out.one x hxm).lt i hi.symm).1
        have hg2b : some g2 ≠ (rwV x).ownBlock := fun q => own_two HR.out.row (HR.out.one x hxm) (by decide) rfl q.symm
        have HXo := Lib.hid (HKo.out.whole HX3.out (by have := Hbm.out; have := Hlo.out; rintro (h | h) <;> omega))
        have hDx : ∀ i : Nat, ¬ some b0 = (rwV x).ownBlock := fun i q => by have := hob b0 q; have := Hlo.out; have := HX3.out.lt; omega
        have hVo := HKo.out.cell (p := ⟨bb, off + j * 5, none⟩) q0 (by have := Hbm.out; have := Hlo.out; have := Hb0.out; have := Hbb.out; rintro (h | h) <;> (simp only at h; omega))
        have hVo1 := HKo.out.cell (p := ⟨bb, off + j * 5 + 1, none⟩) q1 (by have := Hbm.out; have := Hlo.out; have := Hb0.out; have := Hbb.out; rintro (h | h) <;> (simp only at h; omega))
        have hVb : ¬ some bb = (rwV x).ownBlock := fun q => by have := hob bb q; have := Hbm.out; have := Hlo.out; have := Hb0.out; have := Hbb.out; omega
        obtain ⟨xv, gxv⟩ : ∃ z, rwV x = z := ⟨_, rfl⟩
        have GX := Lib.hid gxv
        rw [gxv] at hc2 hob hg2b hDx hVb
        have ld0 : ∀ w', Kept (fun i => some i = xv.ownBlock) wo.drew w' → w'.cell? ⟨g2, p, none⟩ = some xv := fun w' h => h.cell (show wo.drew.cell? _ = _ from hc2) hg2b
        have ld1 : ∀ w', Kept (fun i => some i = xv.ownBlock) wo.drew w' → w'.cell? ⟨b0, 0, none⟩ = some (.slice (some ⟨bb, off, none⟩) n c) := fun w' h => h.cell (HXo.out.dr.cell (i := 0) rfl) (hDx 0)
        have ld2 : ∀ w', Kept (fun i => some i = xv.ownBlock) wo.drew w' → w'.cell? ⟨bb, off + j * 5, none⟩ = some (.int .i64 i1) := fun w' h => h.cell (show wo.drew.cell? _ = _ from hVo) hVb
        have ld3 : ∀ w', Kept (fun i => some i = xv.ownBlock) wo.drew w' → w'.cell? ⟨bb, off + j * 5 + 1, none⟩ = some (.int .i64 i2) := fun w' h => h.cell (show wo.drew.cell? _ = _ from hVo1) hVb
        have HXl : RowKit.Hid (x.2.2.length ≤ 1000000) := Lib.hid hxl
        have HPx : RowKit.Hid (X[p]? = some x) := Lib.hid hx
        have HKd := Lib.hid HKo.out.drew
        have HMd := Lib.hid HMo.out.dr
        have HRd := Lib.hid HR.out.dr
        have HOb : RowKit.Hid (∀ i, some i = xv.ownBlock → lo ≤ i) := Lib.hid hob
        clear hc2 hob hg2b hDx hVb hVo hVo1 hxm hw2 hf2 hx hxl HKo HMo HR HXo gxv
        go_upto_region 10 with fail
        refine wp_region_tail ((fun i => some i = xv.ownBlock)) [15] (by kernel_rfl) ?_
        apply wpT_next 0 (some 30) (by kernel_rfl)
        · simp only [List.getElem?_toArray, List.getElem?_cons_succ, List.getElem?_cons_zero]; exact rfl
        · rfl
        · kernel_rfl
        · kernel_rfl
        · kernel_rfl
        · exact fun _ _ _ _ h => h
        apply Exists.intro
        apply And.intro
        · apply yr_run; rfl; intro w' hw'; go_simp; (try with_reducible rfl)
        simp only [Act.put, List.setIfInBounds_toArray, List.set_cons_zero, List.set_cons_succ]
        apply wpT_next 1 (some 31) (by kernel_rfl)
        · simp only [List.getElem?_toArray, List.getElem?_cons_succ, List.getElem?_cons_zero]; exact rfl
        · rfl
        · kernel_rfl
        · kernel_rfl
        · kernel_rfl
        · exact fun _ _ _ _ h => h
        apply Exists.intro
        apply And.intro
        · apply yr_run; rfl; intro w' hw'; go_simp; (try with_reducible rfl)
        simp only [Act.put, List.setIfInBounds_toArray, List.set_cons_zero, List.set_cons_succ]
        apply wpT_next 2 (some 32) (by kernel_rfl)
        · simp only [List.getElem?_toArray, List.getElem?_cons_succ, List.getElem?_cons_zero]; exact rfl
        · rfl
        · kernel_rfl
        · kernel_rfl
        · kernel_rfl
        · exact fun _ _ _ _ h => h
        apply Exists.intro
        apply And.intro
        · apply yr_run; rfl; intro w' hw'; go_simp; (try with_reducible rfl)
        simp only [Act.put, List.setIfInBounds_toArray, List.set_cons_zero, List.set_cons_succ]
        apply wpT_next 3 (some 33) (by kernel_rfl)
        · simp only [List.getElem?_toArray, List.getElem?_cons_succ, List.getElem?_cons_zero]; exact rfl
        · rfl
        · kernel_rfl
        · kernel_rfl
        · kernel_rfl
        · exact fun _ _ _ _ h => h
        apply Exists.intro
        apply And.intro
        · apply yr_run; rfl; intro w' hw'; go_simp; (try with_reducible rfl)
        simp only [Act.put, List.setIfInBounds_toArray, List.set_cons_zero, List.set_cons_succ]
        apply wpT_next 4 (some 34) (by kernel_rfl)
        · simp only [List.getElem?_toArray, List.getElem?_cons_succ, List.getElem?_cons_zero]; exact rfl
        · rfl
        · kernel_rfl
        · kernel_rfl
        · kernel_rfl
        · exact fun _ _ _ _ h => h
        apply Exists.intro
        apply And.intro
        · apply yr_run; rfl; intro w' hw'; go_simp; (try with_reducible rfl)
        simp only [Act.put, List.setIfInBounds_toArray, List.set_cons_zero, List.set_cons_succ]
        apply wpT_next 5 (some 35) (by kernel_rfl)
        · simp only [List.getElem?_toArray, List.getElem?_cons_succ, List.getElem?_cons_zero]; exact rfl
        · rfl
        · kernel_rfl
        · kernel_rfl
        · kernel_rfl
        · exact fun _ _ _ _ h => h
        apply Exists.intro
        apply And.intro
        · apply yr_run; rfl; intro w' hw'; go_simp; (try with_reducible rfl)
        simp only [Act.put, List.setIfInBounds_toArray, List.set_cons_zero, List.set_cons_succ]
        apply wpT_next 6 (some 36) (by kernel_rfl)
        · simp only [List.getElem?_toArray, List.getElem?_cons_succ, List.getElem?_cons_zero]; exact rfl
        · rfl
        · kernel_rfl
        · kernel_rfl
        · kernel_rfl
        · exact fun _ _ _ _ h => h
        apply Exists.intro
        apply And.intro
        · apply yr_run; rfl; intro w' hw'; go_simp; (try with_reducible rfl)
        simp only [Act.put, List.setIfInBounds_toArray, List.set_cons_zero, List.set_cons_succ]
        apply wpT_next 7 (some 37) (by kernel_rfl)
        · simp only [List.getElem?_toArray, List.getElem?_cons_succ, List.getElem?_cons_zero]; exact rfl
        · rfl
        · kernel_rfl
        · kernel_rfl
        · kernel_rfl
        · exact fun _ _ _ _ h => h
        apply Exists.intro
        apply And.intro
        · apply yr_run; rfl; intro w' hw'; go_simp; (try with_reducible rfl)
        simp only [Act.put, List.setIfInBounds_toArray, List.set_cons_zero, List.set_cons_succ]
        apply wpT_next 8 (some 38) (by kernel_rfl)
        · simp only [List.getElem?_toArray, List.getElem?_cons_succ, List.getElem?_cons_zero]; exact rfl
        · rfl
        · kernel_rfl
        · kernel_rfl
        · kernel_rfl
        · exact fun _ _ _ _ h => h
        apply Exists.intro
        apply And.intro
        · apply yr_run; rfl; intro w' hw'; go_simp; (try with_reducible rfl)
        simp only [Act.put, List.setIfInBounds_toArray, List.set_cons_zero, List.set_cons_succ]
        apply wpT_next 9 (some 39) (by kernel_rfl)
        · simp only [List.getElem?_toArray, List.getElem?_cons_succ, List.getElem?_cons_zero]; exact rfl
        · rfl
        · kernel_rfl
        · kernel_rfl
        · kernel_rfl
        · exact fun _ _ _ _ h => h
        apply Exists.intro
        apply And.intro
        · apply yr_run; rfl; intro w' hw'; go_simp; (try with_reducible rfl)
        simp only [Act.put, List.setIfInBounds_toArray, List.set_cons_zero, List.set_cons_succ]
        apply wpT_next 10 (some 40) (by kernel_rfl)
        · simp only [List.getElem?_toArray, List.getElem?_cons_succ, List.getElem?_cons_zero]; exact rfl
        · rfl
        · kernel_rfl
        · kernel_rfl
        · kernel_rfl
        · exact fun _ _ _ _ h => h
        apply Exists.intro
        apply And.intro
        · apply yr_run; rfl; intro w' hw'; go_simp; (try with_reducible rfl)
        simp only [Act.put, List.setIfInBounds_toArray, List.set_cons_zero, List.set_cons_succ]
        apply wpT_next 11 (some 41) (by kernel_rfl)
        · simp only [List.getElem?_toArray, List.getElem?_cons_succ, List.getElem?_cons_zero]; exact rfl
        · rfl
        · kernel_rfl
        · kernel_rfl
        · kernel_rfl
        · exact fun _ _ _ _ h => h
        apply Exists.intro
        apply And.intro
        · apply yr_run; rfl; intro w' hw'; go_simp; (try with_reducible rfl)
        simp only [Act.put, List.setIfInBounds_toArray, List.set_cons_zero, List.set_cons_succ]
        apply wpT_run 12 (some 42)
        · simp only [List.getElem?_toArray, List.getElem?_cons_succ, List.getElem?_cons_zero]; exact rfl
        · rfl
        · kernel_rfl
        · rfl
        intro w' hw'
        refine ⟨.slice (some ⟨w'.heap.size, 0, none⟩) 1 1, w'.alloc (.cells (idC (i1, i2)).toArray 31), exec_buildSlice 60 31 1 #[(0, .tmp 41)] (by rfl) Try.underlying60 _ (by kernel_rfl), Kept.of_below (below1 _ _), ?_⟩
        have HL : RowKit.Hid (RdS (w'.alloc (.cells (idC (i1, i2)).toArray 31)) (w'.alloc (.cells (idC (i1, i2)).toArray 31)).heap.size 2 (some ⟨w'.heap.size, 0, none⟩) 1 1 (idC (i1, i2))) := Lib.hid (RdS.of_whole (Whole.new_ _ _ _) rfl)
        have HKe := Lib.hid (HKd.out.trans (Kept.of_below (bel_al hw' (.cells (idC (i1, i2)).toArray 31))))
        have HMe := Lib.hid ((HMd.out.bl hw').al (.cells (idC (i1, i2)).toArray 31))
        have HRe := Lib.hid ((HRd.out.bl hw').al (.cells (idC (i1, i2)).toArray 31))
        obtain ⟨W3, gW3⟩ : ∃ z, w'.alloc (.cells (idC (i1, i2)).toArray 31) = z := ⟨_, rfl⟩
        obtain ⟨g3, gg3⟩ : ∃ z, w'.heap.size = z := ⟨_, rfl⟩
        rw [gW3] at HL HKe HMe HRe ⊢
        rw [gg3] at HL ⊢
        clear hw' gW3 gg3 HKd HMd HRd
        simp only [Act.put, List.setIfInBounds_toArray, List.set_cons_zero, List.set_cons_succ]
        apply wpT_run 13 (some 43)
        · simp only [List.getElem?_toArray, List.getElem?_cons_succ, List.getElem?_cons_zero]; exact rfl
        · rfl
        · kernel_rfl
        · rfl
        intro w' hw'
        obtain ⟨A8, c8, w'', hrun, hb8, hg8, hk8⟩ := (HRe.out.bl hw').grow (P := Try.prog) HPx.out idC_len 60 60 i1I _ 16 Try.underlying60 hi1 hz01 hz11 hz21 rfl (by decide) (by decide) HXl.out (by decide) (by have := Hlo.out; have := HKe.out.size; have := hw'.size; omega) _ _ 1 (i1, i2) (HL.out.bl hw') (idC_one _)
        refine ⟨_, w'', exec_append (by rfl) (by rfl) (by rfl) (by rw [← GX.out]; exact hrun), ⟨hg8.os, hg8.tape, hg8.output, hg8.size, fun i hi hne => hg8.block i hi (by rw [GX.out]; exact hne)⟩, ?_⟩
        have hmb : some bm ≠ (rwV x).ownBlock := fun q => by have h1 := HOb.out bm (by rw [← GX.out]; exact q); have := Hbm.out; have := Hlo.out; omega
        have HM8 := Lib.hid (MapF.grown (HMe.out.bl hw') hg8 hmb)
        have hkk : Kept (fun i => i = bm ∨ lo ≤ i) w' w'' := ⟨hg8.os, hg8.tape, hg8.output, hg8.size, fun i hi hne => hg8.block i hi (fun q => hne (.inr (HOb.out i (by rw [← GX.out]; exact q))))⟩
        have HK8 := Lib.hid ((HKe.out.trans (Kept.of_below hw')).trans hkk)
        have Hk8 := Lib.hid hk8
        obtain ⟨W4, gW4⟩ : ∃ z, w'' = z := ⟨_, rfl⟩
        rw [gW4] at HM8 HK8 Hk8 ⊢
        obtain ⟨n8, gn8⟩ : ∃ z, (x.2.2 ++ [(i1, i2)]).length = z := ⟨_, rfl⟩
        have e8 : rwV (A8, c8, x.2.2 ++ [(i1, i2)]) = .slice A8 n8 c8 := by rw [← gn8]; rfl
        rw [e8] at Hk8 ⊢
        clear hw' hrun hb8 hg8 hk8 hmb hkk gW4 HL HKe HMe HRe e8 gn8
        simp only [Act.put, List.setIfInBounds_toArray, List.set_cons_zero, List.set_cons_succ]
        apply wpT_next 14 (some 44) (by kernel_rfl)
        · simp only [List.getElem?_toArray, List.getElem?_cons_succ, List.getElem?_cons_zero]; exact rfl
        · rfl
        · kernel_rfl
        · kernel_rfl
        · kernel_rfl
        · exact fun _ _ _ _ h => h
        apply Exists.intro
        apply And.intro
        · apply yr_run; rfl; intro w' hw'; go_simp; (try with_reducible rfl)
        simp only [Act.put, List.setIfInBounds_toArray, List.set_cons_zero, List.set_cons_succ]
        apply wpT_last 15
        · simp only [List.getElem?_toArray, List.getElem?_cons_succ, List.getElem?_cons_zero]; exact rfl
        · rfl
        · kernel_rfl
        · rfl
        · decide
        intro w' hw'
        obtain ⟨gq, eq, hloq, ⟨csq, hwq⟩, hcq, hfq, hMq⟩ := Hk8.out w' hw'
        obtain rfl : g2 = gq := by
          injection eq with eq
          injection eq
        refine ⟨w'.setCell ⟨g2, p, none⟩ (.slice A8 n8 c8), by (rw [← GX.out] at ld0; go_simp; first | done | exact rfl | exact ⟨rfl, rfl⟩), ?_⟩
        have HR9 := Lib.hid hMq
        have hkk : Kept (fun i => i = bm ∨ lo ≤ i) w' (w'.setCell ⟨g2, p, none⟩ (.slice A8 n8 c8)) := (Kept.refl _ w').setCell (.inl (.inr hloq)) (.slice A8 n8 c8)
        have HK9 := Lib.hid ((HK8.out.trans (Kept.of_below hw')).trans hkk)
        have HM9 : RowKit.Hid (MapF (w'.setCell ⟨g2, p, none⟩ (.slice A8 n8 c8)) keyI bm (j + 1) (plcV L (j + 1))) := Lib.hid ((HM8.out.bl hw').kept (S := fun i => i = g2) (Kept.setCell (S := fun i => i = g2) (p := ⟨g2, p, none⟩) (Kept.refl _ w') (.inl rfl) _) (by have := Hbm.out; have := Hlo.out; omega))
        obtain ⟨W7, gW7⟩ : ∃ z, w'.setCell ⟨g2, p, none⟩ (.slice A8 n8 c8) = z := ⟨_, rfl⟩
        rw [gW7] at HR9 HK9 HM9 ⊢
        clear hw' eq hloq hwq hcq hfq hMq hkk gW7 HM8 HK8 Hk8
        try simp only [Act.put, List.setIfInBounds_toArray, List.set_cons_zero, List.set_cons_succ]
        refine wpT_done (by kernel_rfl) ?_ _
        intro W8 hw8
        have HR10 := Lib.hid (HR9.out.bl hw8)
        have HK10 := Lib.hid (HK9.out.trans (Kept.of_below hw8))
        have HM10 := Lib.hid (HM9.out.bl hw8)
        clear hw8 HR9 HK9 HM9
        go_wp2
        go_roundw
        case rel => exact ⟨j + 1, some ⟨g2, 0, none⟩, c2, _, by omega, by go_num, by rw [HrS.out, HGp.out, HG2.out], HK10, HM10.out.mono (by omega) |> Lib.hid, (by rw [HrS.out, HGp.out, HG2.out]; exact HR10), Lib.hid (by rw [HGx.out]; exact HXN.out _ _)⟩
        case measure => simp [intOf]; omega
      · have hlt := parts_more HLok.out (nmV Vs) hjL hlj hlr
        obtain ⟨hl1, hb, hat, hXN⟩ := hlt
        have hbj : rootB L j = false := by
          rw [rootB, hlj]
          exact beq_eq_false_iff_ne.2 (by omega)
        have ht : ((l : Int) == (j : Int)) = false := beq_eq_false_iff_ne.2 (by omega)
        have hrs : rk L (j + 1) = rk L j := by rw [rk_succ, hbj]; rfl
        have HrS := Lib.hid hrs
        have hlen := partsJ_up L (nmV Vs) X j HXm.out
        obtain ⟨x, hx, hxr⟩ : ∃ x, X[rk L l]? = some x ∧ x.2.2 = partJ L (nmV Vs) j l := by
          have h1 := hat
          rw [← HXm.out, List.getElem?_map] at h1
          cases hq : X[rk L l]? with
          | none => rw [hq] at h1; cases h1
          | some x => rw [hq] at h1; exact ⟨x, rfl, Option.some.inj h1⟩
        have hpn : rk L l < rk L j := by have := (List.getElem?_eq_some_iff.1 hx).1; omega
        have hxl : x.2.2.length ≤ 1000000 := by
          rw [hxr, partJ, List.length_map]
          have h8 := List.length_filter_le (fun k => L.getD k 0 == (l : Int)) (List.range j)
          rw [List.length_range] at h8
          omega
        have hplc : (plcV L j (l : Int)).getD (.int .i64 0) = .int .i64 ((rk L l : Nat) : Int) := by
          unfold plcV
          rw [plcF_more hl1 hb]
          rfl
        obtain ⟨p, gp⟩ : ∃ z, rk L l = z := ⟨_, rfl⟩
        rw [gp] at hx hpn hplc hXN
        have HXN : RowKit.Hid (∀ A8 c8, (X.set p (A8, c8, x.2.2 ++ [(i1, i2)])).map (·.2.2) = partsJ L (nmV Vs) (j + 1)) := Lib.hid (fun A8 c8 => by rw [map_set_, hXN, HXm.out, ← hxr, hnm])
        go_upto_region 9 with fail
        refine wp_region_lit ?_
        refine wl_read (v := ?_) (some 27) rfl (by rfl) ?_ ?_
        rotate_left
        · go_simp; (try with_reducible rfl)
        simp only [Act.put, List.setIfInBounds_toArray, List.set_cons_zero, List.set_cons_succ]
        refine wl_read (v := ?_) (some 28) rfl (by rfl) ?_ ?_
        rotate_left
        · go_simp; (try with_reducible rfl)
        simp only [Act.put, List.setIfInBounds_toArray, List.set_cons_zero, List.set_cons_succ]
        refine wl_mapGet rfl _ _ rfl rfl HM.out Try.underlying119 (zero_intK _) (x := (l : Int)) (wf_nat l (by omega)) rfl ?_
        rw [hplc]
        simp only [Act.put, List.setIfInBounds_toArray, List.set_cons_zero, List.set_cons_succ]
        have HM6 : RowKit.Hid (MapF wo keyI bm j (plcV L (j + 1))) := Lib.hid (by rw [plcV_no hbj]; exact HM.out)
        have HR := HP
        have HKo := HK
        have HMo := HM6
        clear HM HM6 HP HK hplc gp hxr hat hXN hl1 hb hbj hrs hlen HXm hnm hlj hlr hlle hjL hcl ht
        obtain ⟨n2, gn2⟩ : ∃ z, rk L j = z := ⟨_, rfl⟩
        have HG2 := Lib.hid gn2
        rw [gn2] at HR hpn hkj ⊢
        clear gn2
        obtain ⟨g2, junk2, eA2, hg2, hw2, hc2, hf2, -⟩ := own_poke (i := 0) (y := x) (u := rwV x) rwC_len HR.out.row hx hpn (by decide) rfl
        subst eA2
        simp only [Nat.mul_one, Nat.add_zero] at hc2
        replace hc2 : wo.cell? ⟨g2, p, none⟩ = some (rwV x) := hc2
        have hxm := List.mem_of_getElem? hx
        have hob : ∀ i, some i = (rwV x).ownBlock → lo ≤ i := fun i hi => ((HR.out.one x hxm).lt i hi.symm).1
        have hg2b : some g2 ≠ (rwV x).ownBlock := fun q => own_two HR.out.row (HR.out.one x hxm) (by decide) rfl q.symm
        have HXo := Lib.hid (HKo.out.whole HX3.out (by have := Hbm.out; have := Hlo.out; rintro (h | h) <;> omega))
        have hDx : ∀ i : Nat, ¬ some b0 = (rwV x).ownBlock := fun i q => by have := hob b0 q; have := Hlo.out; have := HX3.out.lt; omega
        have hVo := HKo.out.cell (p := ⟨bb, off + j * 5, none⟩) q0 (by have := Hbm.out; have := Hlo.out; have := Hb0.out; have := Hbb.out; rintro (h | h) <;> (simp only at h; omega))
        have hVo1 := HKo.out.cell (p := ⟨bb, off + j * 5 + 1, none⟩) q1 (by have := Hbm.out; have := Hlo.out; have := Hb0.out; have := Hbb.out; rintro (h | h) <;> (simp only at h; omega))
        have hVb : ¬ some bb = (rwV x).ownBlock := fun q => by have := hob bb q; have := Hbm.out; have := Hlo.out; have := Hb0.out; have := Hbb.out; omega
        obtain ⟨xv, gxv⟩ : ∃ z, rwV x = z := ⟨_, rfl⟩
        have GX := Lib.hid gxv
        rw [gxv] at hc2 hob hg2b hDx hVb
        have ld0 : ∀ w', Kept (fun i => some i = xv.ownBlock) wo.drew w' → w'.cell? ⟨g2, p, none⟩ = some xv := fun w' h => h.cell (show wo.drew.cell? _ = _ from hc2) hg2b
        have ld1 : ∀ w', Kept (fun i => some i = xv.ownBlock) wo.drew w' → w'.cell? ⟨b0, 0, none⟩ = some (.slice (some ⟨bb, off, none⟩) n c) := fun w' h => h.cell (HXo.out.dr.cell (i := 0) rfl) (hDx 0)
        have ld2 : ∀ w', Kept (fun i => some i = xv.ownBlock) wo.drew w' → w'.cell? ⟨bb, off + j * 5, none⟩ = some (.int .i64 i1) := fun w' h => h.cell (show wo.drew.cell? _ = _ from hVo) hVb
        have ld3 : ∀ w', Kept (fun i => some i = xv.ownBlock) wo.drew w' → w'.cell? ⟨bb, off + j * 5 + 1, none⟩ = some (.int .i64 i2) := fun w' h => h.cell (show wo.drew.cell? _ = _ from hVo1) hVb
        have HXl : RowKit.Hid (x.2.2.length ≤ 1000000) := Lib.hid hxl
        have HPx : RowKit.Hid (X[p]? = some x) := Lib.hid hx
        have HKd := Lib.hid HKo.out.drew
        have HMd := Lib.hid HMo.out.dr
        have HRd := Lib.hid HR.out.dr
        have HOb : RowKit.Hid (∀ i, some i = xv.ownBlock → lo ≤ i) := Lib.hid hob
        clear hc2 hob hg2b hDx hVb hVo hVo1 hxm hw2 hf2 hx hxl HKo HMo HR HXo gxv
        go_upto_region 10 with fail
        refine wp_region_tail ((fun i => some i = xv.ownBlock)) [15] (by kernel_rfl) ?_
        apply wpT_next 0 (some 30) (by kernel_rfl)
        · simp only [List.getElem?_toArray, List.getElem?_cons_succ, List.getElem?_cons_zero]; exact rfl
        · rfl
        · kernel_rfl
        · kernel_rfl
        · kernel_rfl
        · exact fun _ _ _ _ h => h
        apply Exists.intro
        apply And.intro
        · apply yr_run; rfl; intro w' hw'; go_simp; (try with_reducible rfl)
        simp only [Act.put, List.setIfInBounds_toArray, List.set_cons_zero, List.set_cons_succ]
        apply wpT_next 1 (some 31) (by kernel_rfl)
        · simp only [List.getElem?_toArray, List.getElem?_cons_succ, List.getElem?_cons_zero]; exact rfl
        · rfl
        · kernel_rfl
        · kernel_rfl
        · kernel_rfl
        · exact fun _ _ _ _ h => h
        apply Exists.intro
        apply And.intro
        · apply yr_run; rfl; intro w' hw'; go_simp; (try with_reducible rfl)
        simp only [Act.put, List.setIfInBounds_toArray, List.set_cons_zero, List.set_cons_succ]
        apply wpT_next 2 (some 32) (by kernel_rfl)
        · simp only [List.getElem?_toArray, List.getElem?_cons_succ, List.getElem?_cons_zero]; exact rfl
        · rfl
        · kernel_rfl
        · kernel_rfl
        · kernel_rfl
        · exact fun _ _ _ _ h => h
        apply Exists.intro
        apply And.intro
        · apply yr_run; rfl; intro w' hw'; go_simp; (try with_reducible rfl)
        simp only [Act.put, List.setIfInBounds_toArray, List.set_cons_zero, List.set_cons_succ]
        apply wpT_next 3 (some 33) (by kernel_rfl)
        · simp only [List.getElem?_toArray, List.getElem?_cons_succ, List.getElem?_cons_zero]; exact rfl
        · rfl
        · kernel_rfl
        · kernel_rfl
        · kernel_rfl
        · exact fun _ _ _ _ h => h
        apply Exists.intro
        apply And.intro
        · apply yr_run; rfl; intro w' hw'; go_simp; (try with_reducible rfl)
        simp only [Act.put, List.setIfInBounds_toArray, List.set_cons_zero, List.set_cons_succ]
        apply wpT_next 4 (some 34) (by kernel_rfl)
        · simp only [List.getElem?_toArray, List.getElem?_cons_succ, List.getElem?_cons_zero]; exact rfl
        · rfl
        · kernel_rfl
        · kernel_rfl
        · kernel_rfl
        · exact fun _ _ _ _ h => h
        apply Exists.intro
        apply And.intro
        · apply yr_run; rfl; intro w' hw'; go_simp; (try with_reducible rfl)
        simp only [Act.put, List.setIfInBounds_toArray, List.set_cons_zero, List.set_cons_succ]
        apply wpT_next 5 (some 35) (by kernel_rfl)
        · simp only [List.getElem?_toArray, List.getElem?_cons_succ, List.getElem?_cons_zero]; exact rfl
        · rfl
        · kernel_rfl
        · kernel_rfl
        · kernel_rfl
        · exact fun _ _ _ _ h => h
        apply Exists.intro
        apply And.intro
        · apply yr_run; rfl; intro w' hw'; go_simp; (try with_reducible rfl)
        simp only [Act.put, List.setIfInBounds_toArray, List.set_cons_zero, List.set_cons_succ]
        apply wpT_next 6 (some 36) (by kernel_rfl)
        · simp only [List.getElem?_toArray, List.getElem?_cons_succ, List.getElem?_cons_zero]; exact rfl
        · rfl
        · kernel_rfl
        · kernel_rfl
        · kernel_rfl
        · exact fun _ _ _ _ h => h
        apply Exists.intro
        apply And.intro
        · apply yr_run; rfl; intro w' hw'; go_simp; (try with_reducible rfl)
        simp only [Act.put, List.setIfInBounds_toArray, List.set_cons_zero, List.set_cons_succ]
        apply wpT_next 7 (some 37) (by kernel_rfl)
        · simp only [List.getElem?_toArray, List.getElem?_cons_succ, List.getElem?_cons_zero]; exact rfl
        · rfl
        · kernel_rfl
        · kernel_rfl
        · kernel_rfl
        · exact fun _ _ _ _ h => h
        apply Exists.intro
        apply And.intro
        · apply yr_run; rfl; intro w' hw'; go_simp; (try with_reducible rfl)
        simp only [Act.put, List.setIfInBounds_toArray, List.set_cons_zero, List.set_cons_succ]
        apply wpT_next 8 (some 38) (by kernel_rfl)
        · simp only [List.getElem?_toArray, List.getElem?_cons_succ, List.getElem?_cons_zero]; exact rfl
        · rfl
        · kernel_rfl
        · kernel_rfl
        · kernel_rfl
        · exact fun _ _ _ _ h => h
        apply Exists.intro
        apply And.intro
        · apply yr_run; rfl; intro w' hw'; go_simp; (try with_reducible rfl)
        simp only [Act.put, List.setIfInBounds_toArray, List.set_cons_zero, List.set_cons_succ]
        apply wpT_next 9 (some 39) (by kernel_rfl)
        · simp only [List.getElem?_toArray, List.getElem?_cons_succ, List.getElem?_cons_zero]; exact rfl
        · rfl
        · kernel_rfl
        · kernel_rfl
        · kernel_rfl
        · exact fun _ _ _ _ h => h
        apply Exists.intro
        apply And.intro
        · apply yr_run; rfl; intro w' hw'; go_simp; (try with_reducible rfl)
        simp only [Act.put, List.setIfInBounds_toArray, List.set_cons_zero, List.set_cons_succ]
        apply wpT_next 10 (some 40) (by kernel_rfl)
        · simp only [List.getElem?_toArray, List.getElem?_cons_succ, List.getElem?_cons_zero]; exact rfl
        · rfl
        · kernel_rfl
        · kernel_rfl
        · kernel_rfl
        · exact fun _ _ _ _ h => h
        apply Exists.intro
        apply And.intro
        · apply yr_run; rfl; intro w' hw'; go_simp; (try with_reducible rfl)
        simp only [Act.put, List.setIfInBounds_toArray, List.set_cons_zero, List.set_cons_succ]
        apply wpT_next 11 (some 41) (by kernel_rfl)
        · simp only [List.getElem?_toArray, List.getElem?_cons_succ, List.getElem?_cons_zero]; exact rfl
        · rfl
        · kernel_rfl
        · kernel_rfl
        · kernel_rfl
        · exact fun _ _ _ _ h => h
        apply Exists.intro
        apply And.intro
        · apply yr_run; rfl; intro w' hw'; go_simp; (try with_reducible rfl)
        simp only [Act.put, List.setIfInBounds_toArray, List.set_cons_zero, List.set_cons_succ]
        apply wpT_run 12 (some 42)
        · simp only [List.getElem?_toArray, List.getElem?_cons_succ, List.getElem?_cons_zero]; exact rfl
        · rfl
        · kernel_rfl
        · rfl
        intro w' hw'
        refine ⟨.slice (some ⟨w'.heap.size, 0, none⟩) 1 1, w'.alloc (.cells (idC (i1, i2)).toArray 31), exec_buildSlice 60 31 1 #[(0, .tmp 41)] (by rfl) Try.underlying60 _ (by kernel_rfl), Kept.of_below (below1 _ _), ?_⟩
        have HL : RowKit.Hid (RdS (w'.alloc (.cells (idC (i1, i2)).toArray 31)) (w'.alloc (.cells (idC (i1, i2)).toArray 31)).heap.size 2 (some ⟨w'.heap.size, 0, none⟩) 1 1 (idC (i1, i2))) := Lib.hid (RdS.of_whole (Whole.new_ _ _ _) rfl)
        have HKe := Lib.hid (HKd.out.trans (Kept.of_below (bel_al hw' (.cells (idC (i1, i2)).toArray 31))))
        have HMe := Lib.hid ((HMd.out.bl hw').al (.cells (idC (i1, i2)).toArray 31))
        have HRe := Lib.hid ((HRd.out.bl hw').al (.cells (idC (i1, i2)).toArray 31))
        obtain ⟨W3, gW3⟩ : ∃ z, w'.alloc (.cells (idC (i1, i2)).toArray 31) = z := ⟨_, rfl⟩
        obtain ⟨g3, gg3⟩ : ∃ z, w'.heap.size = z := ⟨_, rfl⟩
        rw [gW3] at HL HKe HMe HRe ⊢
        rw [gg3] at HL ⊢
        clear hw' gW3 gg3 HKd HMd HRd
        simp only [Act.put, List.setIfInBounds_toArray, List.set_cons_zero, List.set_cons_succ]
        apply wpT_run 13 (some 43)
        · simp only [List.getElem?_toArray, List.getElem?_cons_succ, List.getElem?_cons_zero]; exact rfl
        · rfl
        · kernel_rfl
        · rfl
        intro w' hw'
        obtain ⟨A8, c8, w'', hrun, hb8, hg8, hk8⟩ := (HRe.out.bl hw').grow (P := Try.prog) HPx.out idC_len 60 60 i1I _ 16 Try.underlying60 hi1 hz01 hz11 hz21 rfl (by decide) (by decide) HXl.out (by decide) (by have := Hlo.out; have := HKe.out.size; have := hw'.size; omega) _ _ 1 (i1, i2) (HL.out.bl hw') (idC_one _)
        refine ⟨_, w'', exec_append (by rfl) (by rfl) (by rfl) (by rw [← GX.out]; exact hrun), ⟨hg8.os, hg8.tape, hg8.output, hg8.size, fun i hi hne => hg8.block i hi (by rw [GX.out]; exact hne)⟩, ?_⟩
        have hmb : some bm ≠ (rwV x).ownBlock := fun q => by have h1 := HOb.out bm (by rw [← GX.out]; exact q); have := Hbm.out; have := Hlo.out; omega
        have HM8 := Lib.hid (MapF.grown (HMe.out.bl hw') hg8 hmb)
        have hkk : Kept (fun i => i = bm ∨ lo ≤ i) w' w'' := ⟨hg8.os, hg8.tape, hg8.output, hg8.size, fun i hi hne => hg8.block i hi (fun q => hne (.inr (HOb.out i (by rw [← GX.out]; exact q))))⟩
        have HK8 := Lib.hid ((HKe.out.trans (Kept.of_below hw')).trans hkk)
        have Hk8 := Lib.hid hk8
        obtain ⟨W4, gW4⟩ : ∃ z, w'' = z := ⟨_, rfl⟩
        rw [gW4] at HM8 HK8 Hk8 ⊢
        obtain ⟨n8, gn8⟩ : ∃ z, (x.2.2 ++ [(i1, i2)]).length = z := ⟨_, rfl⟩
        have e8 : rwV (A8, c8, x.2.2 ++ [(i1, i2)]) = .slice A8 n8 c8 := by rw [← gn8]; rfl
        rw [e8] at Hk8 ⊢
        clear hw' hrun hb8 hg8 hk8 hmb hkk gW4 HL HKe HMe HRe e8 gn8
        simp only [Act.put, List.setIfInBounds_toArray, List.set_cons_zero, List.set_cons_succ]
        apply wpT_next 14 (some 44) (by kernel_rfl)
        · simp only [List.getElem?_toArray, List.getElem?_cons_succ, List.getElem?_cons_zero]; exact rfl
        · rfl
        · kernel_rfl
        · kernel_rfl
        · kernel_rfl
        · exact fun _ _ _ _ h => h
        apply Exists.intro
        apply And.intro
        · apply yr_run; rfl; intro w' hw'; go_simp; (try with_reducible rfl)
        simp only [Act.put, List.setIfInBounds_toArray, List.set_cons_zero, List.set_cons_succ]
        apply wpT_last 15
        · simp only [List.getElem?_toArray, List.getElem?_cons_succ, List.getElem?_cons_zero]; exact rfl
        · rfl
        · kernel_rfl
        · rfl
        · decide
        intro w' hw'
        obtain ⟨gq, eq, hloq, ⟨csq, hwq⟩, hcq, hfq, hMq⟩ := Hk8.out w' hw'
        obtain rfl : g2 = gq := by
          injection eq with eq
          injection eq
        refine ⟨w'.setCell ⟨g2, p, none⟩ (.slice A8 n8 c8), by (rw [← GX.out] at ld0; go_simp; first | done | exact rfl | exact ⟨rfl, rfl⟩), ?_⟩
        have HR9 := Lib.hid hMq
        have hkk : Kept (fun i => i = bm ∨ lo ≤ i) w' (w'.setCell ⟨g2, p, none⟩ (.slice A8 n8 c8)) := (Kept.refl _ w').setCell (.inl (.inr hloq)) (.slice A8 n8 c8)
        have HK9 := Lib.hid ((HK8.out.trans (Kept.of_below hw')).trans hkk)
        have HM9 : RowKit.Hid (MapF (w'.setCell ⟨g2, p, none⟩ (.slice A8 n8 c8)) keyI bm j (plcV L (j + 1))) := Lib.hid ((HM8.out.bl hw').kept (S := fun i => i = g2) (Kept.setCell (S := fun i => i = g2) (p := ⟨g2, p, none⟩) (Kept.refl _ w') (.inl rfl) _) (by have := Hbm.out; have := Hlo.out; omega))
        obtain ⟨W7, gW7⟩ : ∃ z, w'.setCell ⟨g2, p, none⟩ (.slice A8 n8 c8) = z := ⟨_, rfl⟩
        rw [gW7] at HR9 HK9 HM9 ⊢
        clear hw' eq hloq hwq hcq hfq hMq hkk gW7 HM8 HK8 Hk8
        try simp only [Act.put, List.setIfInBounds_toArray, List.set_cons_zero, List.set_cons_succ]
        refine wpT_done (by kernel_rfl) ?_ _
        intro W8 hw8
        have HR10 := Lib.hid (HR9.out.bl hw8)
        have HK10 := Lib.hid (HK9.out.trans (Kept.of_below hw8))
        have HM10 := Lib.hid (HM9.out.bl hw8)
        clear hw8 HR9 HK9 HM9
        go_wp2
        go_roundw
        case rel => exact ⟨j + 1, some ⟨g2, 0, none⟩, c2, _, by omega, by go_num, by rw [HrS.out, HG2.out], HK10, HM10.out.mono (by omega) |> Lib.hid, (by rw [HrS.out, HG2.out]; exact HR10), Lib.hid (HXN.out _ _)⟩
        case measure => simp [intOf]; omega
    · obtain rfl : n = j := by omega
      have HKf := HK
      go_wp2
      go_ret
      refine ⟨A2, c2, X, rfl, ?_, by rw [← HR0.out]; exact HXm.out, ?_⟩
      · exact ⟨own_lo HP.out.row (by have := HB3.out.size; have := Hlo.out; omega), HP.out.len, fun x hx => own_lo (HP.out.one x hx) (by have := HB3.out.size; have := Hlo.out; omega), HP.out.ne⟩
      · have h1 := HK.out
        have h2 := HB3.out
        have := Hbm.out
        have := Hb0.out
        have := Hlo.out
        exact h2.trans ⟨h1.os, h1.tape, h1.output, h1.size, fun i hi => h1.block i (Nat.lt_of_lt_of_le hi h2.size) (by have := h2.size; rintro (h | h) <;> omega)⟩
set_option maxRecDepth 100000 in
set_option maxHeartbeats 4000000 in
theorem count_any (A : Option Addr) (n c : Nat) (Vs : List VC) (B : Option Addr) (m k : Nat) (Es : List EC) (w : World) (h : DgIn w A n c Vs B m k Es) (hn : n ≤ 1000000) (hr : ∀ x ∈ Vs, x.2.1.2.1 ≤ 1000000) (hv : ∀ v ∈ Vs, ∀ d ∈ v.2.1.2.2.2, wfD d) :
    Calls Try.prog 54 #[.agg #[.slice A n c, .slice B m k]] w fun e w' => e = .returned (.int .i64 ((cntF (labF Vs) : Nat) : Int)) ∧ Below w.heap.size w w' := by
  have HDa := Lib.hid h
  have HC := Lib.hid (fun W h => parts_any A n c Vs B m k Es W h hn hr hv)
  obtain ⟨q, gq⟩ : ∃ z, cntF (labF Vs) = z := ⟨_, rfl⟩
  rw [gq] at HC ⊢
  clear h hr hv gq
  go_enter Try.func54, Try.ntmps54
  go_upto_region 1 with fail
  have hx0 : Whole (w.alloc (.cells #[.slice A n c, .slice B m k] 25)) (w.heap.size) 25 [.slice A n c, .slice B m k] := (Whole.new_ w 25 [.slice A n c, .slice B m k])
  have hbl : Below w.heap.size w (w.alloc (.cells #[.slice A n c, .slice B m k] 25)) := (below1 w (.cells #[.slice A n c, .slice B m k] 25))
  have hsz : w.heap.size + 1 ≤ ((w.alloc (.cells #[.slice A n c, .slice B m k] 25))).heap.size := by simp
  obtain ⟨W0, gW0⟩ : ∃ z, (w.alloc (.cells #[.slice A n c, .slice B m k] 25)) = z := ⟨_, rfl⟩
  rw [gW0] at hx0 hbl hsz
  obtain ⟨b0, gb0⟩ : ∃ z, w.heap.size = z := ⟨_, rfl⟩
  rw [gb0] at hx0
  have HX0 := Lib.hid hx0
  have HB0 := Lib.hid hbl
  have HS0 := Lib.hid hsz
  have Gb0 := Lib.hid gb0
  have Lb0 : RowKit.Hid (w.heap.size ≤ b0) := Lib.hid (by omega)
  rw [gW0, gb0]
  clear gW0 hbl hsz hx0 gb0
  have c0 := HX0.out.cell (i := 0) rfl
  have c1 := HX0.out.cell (i := 1) rfl
  go_wp2_with fail
  refine (HC.out _ (HDa.out.bl HB0.out)).mono ?_
  rintro e w3 ⟨A2, c2, X, rfl, hp, hX, hb3⟩
  have HB3 := Lib.hid (bel_bl HB0.out hb3)
  clear hp hX hb3 c0 c1
  go_wp2
  go_ret
  exact ⟨rfl, HB3.out⟩
end Go.Proofs.Ytahbfdhjgnlmdaa

/- Words for all layers, in one text. -/
namespace Go.Proofs.Ytahbfdhjgnlmdaa
open Go.ChangeShapes Go.WideShapes Go.ChangeAt Go.RowKit

section
variable {H : Type} {enc : TypeId × Value → H} {P : Program}

/-- A row of arguments reads as it did where below the old heap's end nothing has turned. -/
theorem trodAll_stays (hl : laidOutB P = true) {W W' : World} (hb : Below W.heap.size W W') : ∀ (ts : List TypeId) (vs : List Value) (ds : List (DataW H)) (ps : List MemPlace) (sp : Nat → Bool),
    (∀ t ∈ ts, P.readableRec t = true ∧ t < P.types.size) → DataW.TrodAll enc P W 0 (fun _ => true) true ts vs ds ps →
    (∀ p ∈ ps, p.block < W.heap.size) → (∀ p ∈ ps, sp p.block = true) → DataW.TrodAll enc P W' 0 sp true ts vs ds ps
  | [], _, _, _, _, _, h, _, _ => by
    obtain ⟨rfl, rfl, rfl⟩ := trodAll_nil h
    exact rfl
  | t :: ts, vs, ds, ps, sp, ht, h, hlt, hs => by
    obtain ⟨v, vs', d, ds', p, q, rfl, rfl, rfl, h1, h2⟩ := trodAll_cons h
    have ⟨hr, hrow⟩ := ht t (by simp)
    refine ⟨p, q, WideElems.Trod_stays hl hr hrow h1 (fun x hx => hb.same (hlt x (by simp [hx]))) (fun x hx => hs x (by simp [hx])), ?_, rfl⟩
    exact trodAll_stays hl hb ts vs' ds' q sp (fun t' h' => ht t' (by simp [h'])) h2 (fun x hx => hlt x (by simp [hx])) (fun x hx => hs x (by simp [hx]))

/-- A law's post. -/
theorem law_post {f : Func} {s : ChangeSpec} {tb : TypeId} {W W' : World} {args : Array Value} {ds gs : List (DataW H)} {before : List MemPlace}
    (hl : laidOutB P = true) (hts : f.params.toList.all (fun t => P.readableRec t && decide (t < P.types.size)) = true) (hr : f.resultTypes = #[tb]) (htb : P.underlying tb = some .bool) (hv : s.vars = [])
    (hfn : (s.fn H (ds ++ gs)).results = [.lit (.bool true)] ∧ (s.fn H (ds ++ gs)).args = ds ∧ (s.fn H (ds ++ gs)).vars = [])
    (hW : DataW.Whole enc P f.params.toList s.vars false W args.toList ds gs before) (hb : Below W.heap.size W W') :
    s.post enc P f false true false false W args (.bool true) W' := by
  have hts' : ∀ t ∈ f.params.toList, P.readableRec t = true ∧ t < P.types.size := fun t ht => by
    have h := List.all_eq_true.1 hts t ht
    simpa using h
  have hlt : ∀ p ∈ before, p.block < W.heap.size := fun p hp => hW.lt p hp
  have hW' := hW
  obtain ⟨p, q, hA, hV, rfl, hfz, hnd⟩ := hW
  rw [hv] at hV
  obtain ⟨rfl, rfl⟩ := trodVars_none hV
  obtain ⟨e1, e2, e3⟩ := hfn
  refine ⟨ds, [], p ++ [], [], p, [], hW', ?_, ?_, ?_, ?_, fun h => by cases h⟩
  · rw [e1, hr]
    exact trodAll_mk1 (shut_bool htb _)
  · rw [e2]
    exact trodAll_stays hl hb _ _ _ _ _ hts' hA (fun x hx => hlt x (by simp [hx])) (fun x hx => by simpa using hlt x (by simp [hx]))
  · rw [e3, hv]
    rfl
  · exact World.keptBut_mono (fun x hx => ⟨hx, by simpa using hx⟩) (hb.frame (· ∈ p ++ []))
end
end Go.Proofs.Ytahbfdhjgnlmdaa

/- A law's arguments opened: types that are flat rows of int; what such a value is. -/
namespace Go.Proofs.Ytahbfdhjgnlmdaa
open Go.ChangeShapes Go.WideShapes Go.ChangeAt Go.RowKit

section
variable {H : Type} {P : Program}

def In64 (n : Int) : Prop := -9223372036854775808 ≤ n ∧ n ≤ 9223372036854775807
end
end Go.Proofs.Ytahbfdhjgnlmdaa

/- The laws' types as rows of int; what the row's shutting asks of the program. -/
namespace Go.Proofs.Ytahbfdhjgnlmdaa
open Go.ChangeShapes Go.WideShapes Go.ChangeAt Go.RowKit

theorem Try.own : ownKnob Try.prog.godebug = none := by kernel_rfl
theorem Try.laidOut : laidOutB Try.prog = true := by kernel_rfl

end Go.Proofs.Ytahbfdhjgnlmdaa

/- A law's slice argument opened: its elements are rows of ints, or bytes. -/
namespace Go.Proofs.Ytahbfdhjgnlmdaa
open Go.ChangeShapes Go.WideShapes Go.ChangeAt Go.RowKit Go.Deep

section
variable {H : Type} {P : Program}

end
end Go.Proofs.Ytahbfdhjgnlmdaa

/- A law's arguments opened, by the type: ints, bools, texts, slices, structs of these. -/
namespace Go.Proofs.Ytahbfdhjgnlmdaa
open Go.ChangeShapes Go.WideShapes Go.ChangeAt Go.RowKit Go.Deep

section
variable {H : Type} {P : Program} {α β : Type}

/-- What reads as data at type t is the cells of some a with p. -/
def Row1 (H : Type) (P : Program) (t : TypeId) (f : α → List Value) (p : World → α → Prop) : Prop :=
  ∀ (enc : TypeId × Value → H) (w : World) (held : Bool) (fuel : Nat) (cs : List Value) (x : DataW H × List MemPlace),
    DataW.trod enc P w 0 (fun _ => true) held fuel t cs = some x → ∃ a, cs = f a ∧ p w a

theorem row1_int {t : TypeId} (ht : P.underlying t = some (.int .i64)) : Row1 H P t (fun n : Int => [.int .i64 n]) (fun _ n => In64 n) := by
  intro enc w held fuel cs x h
  obtain ⟨n, rfl, _, hw⟩ := DataW.trod_int ht h
  exact ⟨n, rfl, bounds_i64 hw⟩
theorem row1_string {t : TypeId} (ht : P.underlying t = some .string) : Row1 H P t (fun s : ByteArray => [.string s]) (fun _ s => s.size ≤ maxLen) := by
  intro enc w held fuel cs x h
  obtain ⟨s, rfl, _, hs⟩ := DataW.trod_string ht h
  exact ⟨s, rfl, hs⟩
theorem Row1.map {t : TypeId} {f : α → List Value} {p : World → α → Prop} (h : Row1 H P t f p) (g : α → β) {f' : β → List Value} {p' : World → β → Prop} (hf : ∀ a, f a = f' (g a)) (hp : ∀ w a, p w a → p' w (g a)) : Row1 H P t f' p' := by
  intro enc w held fuel cs x hx
  obtain ⟨a, rfl, ha⟩ := h enc w held fuel cs x hx
  exact ⟨g a, hf a, hp w a ha⟩

/-- What the fields from cell off on read as. -/
def Fields_ (H : Type) (P : Program) (fs : List Field) (off m : Nat) (g : α → List Value) (q : World → α → Prop) : Prop :=
  ∀ (enc : TypeId × Value → H) (w : World) (held : Bool) (n : Nat) (cs : List Value),
    (∀ fl ∈ fs, ∃ y, DataW.trod enc P w 0 (fun _ => true) held n fl.type ((cs.drop fl.offset).take (P.cellsOf fl.type)) = some y) → ∃ a, (cs.drop off).take m = g a ∧ q w a
theorem fields_nil (off : Nat) : Fields_ H P [] off 0 (fun _ : Unit => []) (fun _ _ => True) := fun _ _ _ _ cs _ => ⟨(), by simp, trivial⟩
theorem fields_cons {fl : Field} {fs : List Field} {off k m : Nat} {f : α → List Value} {p : World → α → Prop} {g : β → List Value} {q : World → β → Prop}
    (h : Row1 H P fl.type f p) (ho : fl.offset = off) (hc : P.cellsOf fl.type = k) (hr : Fields_ H P fs (off + k) m g q) :
    Fields_ H P (fl :: fs) off (k + m) (fun ab : α × β => f ab.1 ++ g ab.2) (fun w ab => p w ab.1 ∧ q w ab.2) := by
  intro enc w held n cs hall
  obtain ⟨y, hy⟩ := hall fl (by simp)
  obtain ⟨a, ha, pa⟩ := h _ _ _ _ _ _ hy
  obtain ⟨b, hb, qb⟩ := hr enc w held n cs (fun fl' h' => hall fl' (by simp [h']))
  rw [ho, hc] at ha
  refine ⟨(a, b), ?_, pa, qb⟩
  show _ = f a ++ g b
  rw [← ha, ← hb, List.take_add, List.drop_drop]
theorem row1_struct {t : TypeId} {fs : List Field} {m : Nat} {g : α → List Value} {q : World → α → Prop} (ht : P.underlying t = some (.struct fs.toArray)) (hc : P.cellsOf t = m) (h : Fields_ H P fs 0 m g q) : Row1 H P t g q := by
  intro enc w held fuel cs x hx
  obtain ⟨xs, n, _, _, hl, hlen, hg⟩ := DataW.trod_struct ht hx
  obtain ⟨a, ha, qa⟩ := h enc w held n cs (fun fl hfl => by
    obtain ⟨i, hi⟩ := List.getElem?_of_mem hfl
    have h1 := hg i fl (by simpa using hi)
    have hlt : i < xs.length := by
      rw [hlen]
      simpa using (List.getElem?_eq_some_iff.1 hi).1
    exact ⟨xs[i], by rw [h1, List.getElem?_eq_getElem hlt]⟩)
  refine ⟨a, ?_, qa⟩
  rw [← ha, List.drop_zero, List.take_of_length_le (by omega)]

theorem row1_rows {e : TypeId} {k : Nat} {f : α → List Value} {p : World → α → Prop} (hi : Row1 H P e f p) (hc : P.cellsOf e = k) (hk : ∀ a, (f a).length = k) (enc : TypeId × Value → H) (W : World) (held : Bool) (a : Addr) (nn : Nat) :
    ∀ n : Nat, (∀ i, i < n → ∃ cs' D, W.cells? 0 (a.add (i * P.cellsOf e)) (P.cellsOf e) = some cs' ∧ DataW.trod enc P W 0 (fun _ => true) held nn e cs' = some D) →
      ∃ l : List α, l.length = n ∧ (∀ j u, (rowsV f l)[j]? = some u → W.cell? (a.add j) = some u) ∧ ∀ x ∈ l, p W x
  | 0, _ => ⟨[], rfl, fun j u h => (by simp [rowsV] at h), fun x h => (by cases h)⟩
  | n + 1, h => by
    obtain ⟨l, hl, hq, hp⟩ := row1_rows hi hc hk enc W held a nn n (fun i hi => h i (by omega))
    obtain ⟨cs', D, h1, h2⟩ := h n (by omega)
    obtain ⟨x, rfl, hx⟩ := hi _ _ _ _ _ _ h2
    rw [hc] at h1
    obtain ⟨_, hln, hat⟩ := World.cells?_some h1
    have hlen : (rowsV f l).length = n * k := by rw [rowsV_length f hk, hl]
    refine ⟨l ++ [x], by simp [hl], fun j u hj => ?_, fun y hy => ?_⟩
    · rw [rowsV_app] at hj
      rcases Nat.lt_or_ge j (n * k) with hlt | hge
      · rw [List.getElem?_append_left (by omega)] at hj
        exact hq j u hj
      · rw [List.getElem?_append_right (by omega), hlen] at hj
        simp only [rowsV, List.append_nil] at hj
        have hjk : j - n * k < k := by
          rcases Nat.lt_or_ge (j - n * k) k with h3 | h3
          · exact h3
          · rw [List.getElem?_eq_none (by rw [hk]; exact h3)] at hj
            cases hj
        have h4 := hat (j - n * k) hjk
        rw [hj, add_add, show n * k + (j - n * k) = j by omega] at h4
        exact h4
    · rcases List.mem_append.1 hy with hy | hy
      · exact hp y hy
      · obtain rfl := List.mem_singleton.1 hy
        exact hx

/-- What a slice reads as. -/
def SlOk (k : Nat) (f : α → List Value) (p : World → α → Prop) (w : World) (s : Option Addr × Nat × Nat × List α) : Prop :=
  s.2.2.1 ≤ maxLen ∧ RdS w w.heap.size k s.1 s.2.1 s.2.2.1 (rowsV f s.2.2.2) ∧ ∀ x ∈ s.2.2.2, p w x
def slCells (s : Option Addr × Nat × Nat × List α) : List Value := [.slice s.1 s.2.1 s.2.2.1]
theorem row1_slice {t e : TypeId} {k : Nat} {f : α → List Value} {p : World → α → Prop} (hi : Row1 H P e f p) (ht : P.underlying t = some (.slice e)) (hc : P.cellsOf e = k) (hk : ∀ a, (f a).length = k) (h0 : 0 < k) :
    Row1 H P t (slCells (α := α)) (SlOk k f p) := by
  intro enc W held fuel cs x hf
  rcases open_slice ht hf with ⟨rfl, _⟩ | ⟨a, n, c, m, q, D, Pl, rfl, hb, hl, hm, hmm, hx, hel⟩
  · exact ⟨(none, 0, 0, []), rfl, Nat.zero_le _, ⟨by simp [rowsV], fun _ => ⟨rfl, rfl⟩, Nat.le_refl _, fun a ha => (by cases ha), fun a ha => (by cases ha)⟩, fun x hx => (by cases hx)⟩
  · have hmc : m = c := by simpa using hmm
    clear hmm
    subst m
    obtain ⟨l, hlen, hcell, hp⟩ := row1_rows hi hc hk enc W held a q n (fun i him => by
      obtain ⟨cs', h1, h2⟩ := hel i (by omega)
      exact ⟨cs', _, h1, h2⟩)
    refine ⟨(some a, n, c, l), rfl, hm, ⟨by rw [rowsV_length f hk, hlen], fun e => (by cases e), hl, fun a' ha hn => ?_, fun a' ha j u hu => ?_⟩, hp⟩
    · obtain rfl := Option.some.inj ha
      have h0' : 0 < (rowsV f l).length := by rw [rowsV_length f hk, hlen]; exact Nat.mul_pos hn h0
      have := World.block_lt_of_cell? W _ (hcell 0 _ (List.getElem?_eq_getElem h0'))
      simpa [Addr.add] using this
    · obtain rfl := Option.some.inj ha
      exact hcell j u hu

theorem open_row1_struct {w W : World} {t : TypeId} {fs : Array Field} {f : α → List Value} {p : World → α → Prop} {r : Reach} {b0 : Nat} {enc : TypeId × Value → H} {held : Bool} {v : Value} {d : DataW H} {ps : List MemPlace}
    (hi : Row1 H P t f p) (ht : P.underlying t = some (.struct fs)) (hv : Value.okWide P w r b0 t v) (hd : DataW.Trod enc P W 0 (fun _ => true) held t v d ps) :
    ∃ a, v = .agg (f a).toArray ∧ p W a := by
  simp only [Value.okWide, ht] at hv
  obtain ⟨cs, rfl, _, _⟩ := hv
  obtain ⟨fuel, hf⟩ := hd
  obtain ⟨a, q, ha⟩ := hi _ _ _ _ _ _ hf
  refine ⟨a, ?_, ha⟩
  simp only [Value.cells] at q
  rw [← q, Array.toArray_toList]
end
end Go.Proofs.Ytahbfdhjgnlmdaa

/- The laws' types of the diagram layers: names, darts, vertices, edges, diagrams. -/
namespace Go.Proofs.Ytahbfdhjgnlmdaa
open Go.ChangeShapes Go.WideShapes Go.ChangeAt Go.RowKit

theorem wf64 {n : Int} (h : In64 n) : (Lit.int .i64 n).wf = true := by
  unfold In64 at h
  have e1 : IntKind.i64.min = -9223372036854775808 := rfl
  have e2 : IntKind.i64.max = 9223372036854775807 := rfl
  simp only [Lit.wf, e1, e2, Bool.and_eq_true]
  exact ⟨decide_eq_true h.1, decide_eq_true h.2⟩
theorem row1_id (H : Type) : Row1 H Try.prog 31 idC (fun _ x => In64 x.1 ∧ In64 x.2) :=
  (row1_struct Try.underlying31 (by kernel_rfl) (fields_cons (k := 1) (row1_int Try.underlying3) rfl (by kernel_rfl) (fields_cons (k := 1) (row1_int Try.underlying3) rfl (by kernel_rfl) (fields_nil _)))).map
    (fun a => (a.1, a.2.1)) (fun _ => rfl) (fun _ _ h => ⟨h.1, h.2.1⟩)
theorem row1_dart (H : Type) : Row1 H Try.prog 35 dC (fun _ x => In64 x.1 ∧ In64 x.2.1 ∧ In64 x.2.2) :=
  (row1_struct Try.underlying35 (by kernel_rfl) (fields_cons (k := 2) (row1_id H) rfl (by kernel_rfl) (fields_cons (k := 1) (row1_int Try.underlying3) rfl (by kernel_rfl) (fields_nil _)))).map
    (fun a => (a.1.1, a.1.2, a.2.1)) (fun _ => rfl) (fun _ _ h => ⟨h.1.1, h.1.2, h.2.1⟩)
def VOk (W : World) (v : VC) : Prop := SlOk 3 dC (fun _ x => In64 x.1 ∧ In64 x.2.1 ∧ In64 x.2.2) W v.2.1 ∧ v.2.2.1.size ≤ maxLen
theorem row1_vertex (H : Type) : Row1 H Try.prog 38 vC VOk :=
  (row1_struct Try.underlying38 (by kernel_rfl) (fields_cons (k := 2) (row1_id H) rfl (by kernel_rfl) (fields_cons (k := 1) (row1_slice (row1_dart H) Try.underlying36 (by kernel_rfl) dC_len (by decide)) rfl (by kernel_rfl)
    (fields_cons (k := 1) (row1_string Try.underlying9) rfl (by kernel_rfl) (fields_cons (k := 1) (row1_int Try.underlying3) rfl (by kernel_rfl) (fields_nil _)))))).map
    (fun a => (a.1, a.2.1, a.2.2.1, a.2.2.2.1)) (fun _ => rfl) (fun _ _ h => ⟨h.2.1, h.2.2.1⟩)
def EOk (_ : World) (e : EC) : Prop := In64 e.1.1 ∧ In64 e.1.2 ∧ e.2.1.size ≤ maxLen
theorem row1_edge (H : Type) : Row1 H Try.prog 33 eC EOk :=
  (row1_struct Try.underlying33 (by kernel_rfl) (fields_cons (k := 2) (row1_id H) rfl (by kernel_rfl)
    (fields_cons (k := 1) (row1_string Try.underlying9) rfl (by kernel_rfl) (fields_cons (k := 1) (row1_int Try.underlying3) rfl (by kernel_rfl) (fields_nil _))))).map
    (fun a => (a.1, a.2.1, a.2.2.1)) (fun _ => rfl) (fun _ _ h => ⟨h.1.1, h.1.2, h.2.1⟩)
abbrev DgT := (Option Addr × Nat × Nat × List VC) × (Option Addr × Nat × Nat × List EC)
def dgC (d : DgT) : List Value := [.slice d.1.1 d.1.2.1 d.1.2.2.1, .slice d.2.1 d.2.2.1 d.2.2.2.1]
def DgOk (W : World) (d : DgT) : Prop := SlOk 5 vC VOk W d.1 ∧ SlOk 4 eC EOk W d.2
theorem row1_diagram (H : Type) : Row1 H Try.prog 25 dgC DgOk :=
  (row1_struct Try.underlying25 (by kernel_rfl) (fields_cons (k := 1) (row1_slice (row1_vertex H) Try.underlying22 (by kernel_rfl) vC_len (by decide)) rfl (by kernel_rfl)
    (fields_cons (k := 1) (row1_slice (row1_edge H) Try.underlying23 (by kernel_rfl) eC_len (by decide)) rfl (by kernel_rfl) (fields_nil _)))).map
    (fun a => (a.1, a.2.1)) (fun _ => rfl) (fun _ _ h => ⟨h.1, h.2.1⟩)
theorem DgOk.dg {W : World} {d : DgT} (h : DgOk W d) : DgIn W d.1.1 d.1.2.1 d.1.2.2.1 d.1.2.2.2 d.2.1 d.2.2.1 d.2.2.2.1 d.2.2.2.2 :=
  ⟨h.1.2.1, h.2.2.1, fun x hx => ⟨(h.1.2.2 x hx).1.1, by rw [dartsV_rows]; exact (h.1.2.2 x hx).1.2.1⟩⟩
theorem zero64 : In64 0 ∧ In64 1 := by unfold In64; omega
theorem DgOk.good {W : World} {d : DgT} (h : DgOk W d) : GoodD d.1.2.2.2 d.2.2.2.2 :=
  ⟨fun x hx y hy => by
    have h1 := (h.1.2.2 x hx).1.2.2 y hy
    exact ⟨wf64 h1.1, wf64 h1.2.1, wf64 h1.2.2⟩, fun e he => by
    have h1 := h.2.2.2 e he
    exact ⟨⟨wf64 h1.1, wf64 h1.2.1, wf64 zero64.1⟩, ⟨wf64 h1.1, wf64 h1.2.1, wf64 zero64.2⟩⟩, fun x hx => (h.1.2.2 x hx).2, fun e he => (h.2.2.2 e he).2.2⟩
theorem DgOk.max {W : World} {d : DgT} (h : DgOk W d) : d.1.2.1 ≤ maxLen ∧ d.2.2.1 ≤ maxLen := ⟨Nat.le_trans h.1.2.1.le h.1.1, Nat.le_trans h.2.2.1.le h.2.1⟩
end Go.Proofs.Ytahbfdhjgnlmdaa

/- Opening arguments by their types' shapes, with what they weigh: how long a slice can be that is handed in. -/
namespace Go.Proofs.Ytahbfdhjgnlmdaa
open Go.ChangeShapes Go.WideShapes Go.ChangeAt Go.RowKit Go.Deep

section
variable {H : Type} {P : Program} {α β : Type}
def Row1z (H : Type) (P : Program) (t : TypeId) (f : α → List Value) (p : World → α → Prop) : Prop :=
  ∀ (enc : TypeId × Value → H) (w : World) (held : Bool) (fuel : Nat) (cs : List Value) (x : DataW H × List MemPlace),
    DataW.trod enc P w 0 (fun _ => true) held fuel t cs = some x → (∀ n ∈ x.1.weights P t, n ≤ reachBytes) → ∃ a, cs = f a ∧ p w a
theorem Row1.z {t : TypeId} {f : α → List Value} {p : World → α → Prop} (h : Row1 H P t f p) : Row1z H P t f p := fun enc w held fuel cs x hx _ => h enc w held fuel cs x hx
theorem Row1z.map {t : TypeId} {f : α → List Value} {p : World → α → Prop} (h : Row1z H P t f p) (g : α → β) {f' : β → List Value} {p' : World → β → Prop} (hf : ∀ a, f a = f' (g a)) (hp : ∀ w a, p w a → p' w (g a)) : Row1z H P t f' p' := by
  intro enc w held fuel cs x hx hz
  obtain ⟨a, rfl, ha⟩ := h enc w held fuel cs x hx hz
  exact ⟨g a, hf a, hp w a ha⟩
def SlOkz (k b : Nat) (f : α → List Value) (p : World → α → Prop) (w : World) (s : Option Addr × Nat × Nat × List α) : Prop :=
  SlOk k f p w s ∧ s.2.2.1 * b ≤ reachBytes
end
def VOkz (W : World) (v : VC) : Prop := SlOkz 3 24 dC (fun _ x => In64 x.1 ∧ In64 x.2.1 ∧ In64 x.2.2) W v.2.1 ∧ v.2.2.1.size ≤ maxLen
def DgOkz (W : World) (d : DgT) : Prop := SlOkz 5 64 vC VOkz W d.1 ∧ SlOkz 4 40 eC EOk W d.2
theorem DgOkz.ok {W : World} {d : DgT} (h : DgOkz W d) : DgOk W d := ⟨⟨h.1.1.1, h.1.1.2.1, fun x hx => ⟨(h.1.1.2.2 x hx).1.1, (h.1.1.2.2 x hx).2⟩⟩, h.2.1⟩
end Go.Proofs.Ytahbfdhjgnlmdaa

/- The document's example of layer 6, and what is well formed. -/
namespace Go.Proofs.Ytahbfdhjgnlmdaa
open Go.RowKit
set_option linter.unusedSimpArgs false
set_option linter.unusedVariables false

theorem Formed.small {A : Option Addr} {n c : Nat} {Vs : List VC} {B : Option Addr} {m k : Nat} {Es : List EC} {w : World} (hf : Formed Vs Es) (h : DgIn w A n c Vs B m k Es) : n ≤ 24 ∧ m ≤ 40 ∧ ∀ x ∈ Vs, x.2.1.2.1 ≤ 80 := by
  have h1 := h.v.rlen vC_len (by decide)
  have h2 := h.e.rlen eC_len (by decide)
  have h3 := hf.v24
  have h4 := hf.e40
  refine ⟨by omega, by omega, fun x hx => ?_⟩
  have h5 := (h.r x hx).2.dlen
  have h6 := hf.len
  have h7 : x.2.1.2.2.2.length ≤ (ringsOf Vs).length := by
    clear h1 h2 h3 h4 h5 h6 h hf
    induction Vs with
    | nil => cases hx
    | cons v r ih =>
      rw [ringsOf_cons, List.length_append]
      rcases List.mem_cons.1 hx with rfl | hx
      · omega
      · have := ih hx; omega
  omega
end Go.Proofs.Ytahbfdhjgnlmdaa

/- face.sigmas. -/
namespace Go.Proofs.Ytahbfdhjgnlmdaa
open Go.RowKit
set_option linter.unusedSimpArgs false
set_option linter.unusedVariables false


/-- The next one round a vertex, of the first k darts of its ring. -/
def nxR (R : List D) : Nat → (D → Option D) → D → Option D
  | 0, f => f
  | k + 1, f => fun y => if y = R.getD k (0, 0, 0) then some (R.getD ((k + 1) % R.length) (0, 0, 0)) else nxR R k f y
def nxV : List VC → (D → Option D) → D → Option D
  | [], f => f
  | v :: r, f => nxV r (nxR v.2.1.2.2.2 v.2.1.2.2.2.length f)
def sigM (Vs : List VC) : D → Option D := nxV Vs (fun _ => none)
def opV (f : D → Option D) (y : D) : Option Value := (f y).map dV
theorem opV_put (f : D → Option D) (x z : D) : (fun y => if y = x then some (dV z) else opV f y) = opV (fun y => if y = x then some z else f y) := by
  funext y
  unfold opV
  by_cases h : y = x <;> simp [h]
set_option maxRecDepth 100000 in
set_option maxHeartbeats 4000000 in
theorem sigmas_any (A : Option Addr) (n c : Nat) (Vs : List VC) (B : Option Addr) (m k : Nat) (Es : List EC) (w : World) (h : DgIn w A n c Vs B m k Es) (hn : n ≤ 1000000) (hr : ∀ x ∈ Vs, x.2.1.2.1 ≤ 1000000) (hv : ∀ v ∈ Vs, ∀ d ∈ v.2.1.2.2.2, wfD d) :
    Calls Try.prog 60 #[.agg #[.slice A n c, .slice B m k]] w fun e w' => ∃ b q S, e = .returned (.map (some b)) ∧ MapD w' b q (opV (sigM Vs)) S ∧ q ≤ 1000000000000 ∧ w.heap.size ≤ b ∧ Below w.heap.size w w' := by
  have HV := Lib.hid h.v
  have HRg := Lib.hid h.r
  have Hlv := Lib.hid (h.v.rlen vC_len (by decide))
  have Hhv := Lib.hid hv
  have Hhr := Lib.hid hr
  obtain ⟨sg, gsg⟩ : ∃ z, sigM Vs = z := ⟨_, rfl⟩
  have HSg := Lib.hid gsg
  rw [gsg]
  clear h hv hr gsg
  have hmm := @run_makeMap Try.prog
  go_enter Try.func60, Try.ntmps60
  go_upto_region 1 with fail
  have hx0 : Whole (w.alloc (.cells #[.slice A n c, .slice B m k] 25)) (w.heap.size) 25 [.slice A n c, .slice B m k] := (Whole.new_ w 25 [.slice A n c, .slice B m k])
  have hbl : Below w.heap.size w (w.alloc (.cells #[.slice A n c, .slice B m k] 25)) := (below1 w (.cells #[.slice A n c, .slice B m k] 25))
  have hsz : w.heap.size + 1 ≤ ((w.alloc (.cells #[.slice A n c, .slice B m k] 25))).heap.size := by simp
  obtain ⟨W0, gW0⟩ : ∃ z, (w.alloc (.cells #[.slice A n c, .slice B m k] 25)) = z := ⟨_, rfl⟩
  rw [gW0] at hx0 hbl hsz
  obtain ⟨b0, gb0⟩ : ∃ z, w.heap.size = z := ⟨_, rfl⟩
  rw [gb0] at hx0
  have HX0 := Lib.hid hx0
  have HB0 := Lib.hid hbl
  have HS0 := Lib.hid hsz
  have Gb0 := Lib.hid gb0
  have Lb0 : RowKit.Hid (w.heap.size ≤ b0) := Lib.hid (by omega)
  rw [gW0, gb0]
  clear gW0 hbl hsz hx0 gb0
  have HMa : RowKit.Hid (∃ S, MapD (W0.alloc (.map #[] 0)) W0.heap.size (0 * 1000000) (opV (fun _ => none)) S) := Lib.hid ⟨[], show MapD _ _ _ (fun _ => none) _ from (MapD.made).mono (by omega)⟩
  have HBa := Lib.hid (bel_al HB0.out (.map #[] 0))
  have Hbl : RowKit.Hid (w.heap.size ≤ W0.heap.size) := Lib.hid HB0.out.size
  have c0 := (HX0.out.al (.map #[] 0)).cell (i := 0) rfl
  have HF0 : RowKit.Hid (sg = nxV (Vs.drop 0) (fun _ => none)) := Lib.hid (by rw [← HSg.out, List.drop_zero]; rfl)
  go_wp2
  clear c0 hmm
  obtain ⟨W2, gW2⟩ : ∃ z, W0.alloc (.map #[] 0) = z := ⟨_, rfl⟩
  obtain ⟨bm, gbm⟩ : ∃ z, W0.heap.size = z := ⟨_, rfl⟩
  rw [gW2] at HMa HBa ⊢
  rw [gbm] at HMa Hbl ⊢
  clear gW2 gbm HX0 HB0 HS0 HSg
  go_loopw [12] (fun si wr => ∃ (i : Nat) (f : D → Option D), i ≤ n ∧ si = .int .i64 i ∧ RowKit.Hid (Below w.heap.size w wr) ∧ RowKit.Hid (∃ S, MapD wr bm (i * 1000000) (opV f) S) ∧ RowKit.Hid (sg = nxV (Vs.drop i) f)) (fun si _ => n - (intOf si).toNat)
  case atStart => exact ⟨0, _, by omega, rfl, HBa, HMa, HF0⟩
  case round =>
    clear HBa HMa HF0
    obtain ⟨i, f, hi, rfl, HB, HM, HF⟩ := hrel
    obtain ⟨wo, gwo⟩ : ∃ z, wr = z := ⟨_, rfl⟩
    rw [gwo] at HB HM ⊢
    clear gwo
    by_cases hin : i < n
    · obtain ⟨v, hx⟩ : ∃ v, Vs[i]? = some v := ⟨_, List.getElem?_eq_getElem (by have := Hlv.out; omega)⟩
      have hdr : Vs.drop i = v :: Vs.drop (i + 1) := by
        rw [List.drop_eq_getElem_cons (List.getElem?_eq_some_iff.1 hx).1, (List.getElem?_eq_some_iff.1 hx).2]
      have hvm := List.mem_of_getElem? hx
      have hrg := HRg.out v hvm
      have hrn := Hhr.out v hvm
      have hwf := Hhv.out v hvm
      have hF := HF.out
      rw [hdr, nxV] at hF
      obtain ⟨bb, off, rfl, hbB, hpl⟩ := HV.out.place vC_len (by decide) (by omega)
      have hbw := HB.out
      have q0 := hpl i _ hx 0 _ rfl
      have q1 := hpl i _ hx 1 _ rfl
      have q2 := hpl i _ hx 2 _ rfl
      have q3 := hpl i _ hx 3 _ rfl
      have q4 := hpl i _ hx 4 _ rfl
      simp only [Addr.add_lit, Nat.add_zero] at q0 q1 q2 q3 q4
      have l0 := (hbw.cell (p := ⟨bb, off + i * 5, none⟩) hbB).trans q0
      have l1 := (hbw.cell (p := ⟨bb, off + i * 5 + 1, none⟩) hbB).trans q1
      have l2 := (hbw.cell (p := ⟨bb, off + i * 5 + 2, none⟩) hbB).trans q2
      have l3 := (hbw.cell (p := ⟨bb, off + i * 5 + 3, none⟩) hbB).trans q3
      have l4 := (hbw.cell (p := ⟨bb, off + i * 5 + 4, none⟩) hbB).trans q4
      clear hbw q0 q1 q2 q3 q4
      obtain ⟨⟨i1, i2⟩, ⟨rA, rn, rc, rL⟩, lb, at_⟩ := v
      replace hrn : rn ≤ 1000000 := hrn
      have HR : RowKit.Hid (RdS w w.heap.size 3 rA rn rc (dartsV rL)) := Lib.hid hrg.2
      have Hlr := Lib.hid HR.out.dlen
      have Hwf : RowKit.Hid (∀ d ∈ rL, wfD d) := Lib.hid hwf
      have HF1 : RowKit.Hid (sg = nxV (Vs.drop (i + 1)) (nxR rL rL.length f)) := Lib.hid hF
      have HBb := Lib.hid (bel_al HB.out (.cells #[.int .i64 i1, .int .i64 i2, .slice rA rn rc, .string lb, .int .i64 at_] 38))
      have HMb : RowKit.Hid (∃ S, MapD (wo.alloc (.cells #[.int .i64 i1, .int .i64 i2, .slice rA rn rc, .string lb, .int .i64 at_] 38)) bm (i * 1000000 + 0) (opV (nxR rL 0 f)) S) := Lib.hid (by obtain ⟨S, hS⟩ := HM.out; exact ⟨S, (hS.mono (by omega)).al _⟩)
      have HXb := Lib.hid (Whole.new2 (w := wo) (t := 38) (cs := [.int .i64 i1, .int .i64 i2, .slice rA rn rc, .string lb, .int .i64 at_]) rfl)
      have HLb : RowKit.Hid (w.heap.size ≤ wo.heap.size) := Lib.hid HB.out.size
      have HNb : RowKit.Hid (wo.heap.size ≠ bm) := Lib.hid (by obtain ⟨S, hS⟩ := HM.out; have := hS.lt; omega)
      have c2 := HXb.out.cell (i := 2) rfl
      clear hx hdr hvm hrg hwf hF hpl hbB HF HM
      go_wp2
      clear l0 l1 l2 l3 l4 HB c2
      obtain ⟨wa, gwa⟩ : ∃ z, wo.alloc (.cells #[.int .i64 i1, .int .i64 i2, .slice rA rn rc, .string lb, .int .i64 at_] 38) = z := ⟨_, rfl⟩
      obtain ⟨b5, gb5⟩ : ∃ z, wo.heap.size = z := ⟨_, rfl⟩
      rw [gwa] at HBb HMb HXb ⊢
      rw [gb5] at HXb HLb HNb ⊢
      clear gwa gb5
      go_loopw [19] (fun sj wr => ∃ j : Nat, j ≤ rn ∧ sj = .int .i64 j ∧ RowKit.Hid (Below w.heap.size w wr) ∧ RowKit.Hid (∃ S, MapD wr bm (i * 1000000 + j) (opV (nxR rL j f)) S) ∧ RowKit.Hid (Whole wr b5 38 [.int .i64 i1, .int .i64 i2, .slice rA rn rc, .string lb, .int .i64 at_])) (fun sj _ => rn - (intOf sj).toNat)
      case atStart => exact ⟨0, by omega, rfl, HBb, HMb, HXb⟩
      case round =>
        clear HBb HMb HXb
        obtain ⟨j, hj, rfl, HB, HM, HX⟩ := hrel
        obtain ⟨wi, gwi⟩ : ∃ z, wr = z := ⟨_, rfl⟩
        rw [gwi] at HB HM HX ⊢
        clear gwi
        by_cases hjr : j < rn
        · obtain ⟨b, of2, rfl, hb, hc⟩ := (HR.out.up HB.out HB.out.size).darts (by omega)
          have hjl : j < rL.length := by have := Hlr.out; omega
          obtain ⟨d1, d2, d3⟩ := hc j hjl
          obtain ⟨j2, gj2⟩ : ∃ z, (j + 1) % rn = z := ⟨_, rfl⟩
          have hj2 : j2 < rn := by rw [← gj2]; exact Nat.mod_lt _ (by omega)
          obtain ⟨f1, f2, f3⟩ := hc j2 (by have := Hlr.out; omega)
          have hwr1 : IntKind.i64.wrap ((j : Int) + 1) = (j : Int) + 1 := IntWalk.i64_in _ (by omega)
          have hmod : ((j : Int) + 1) % (rn : Int) = (j2 : Int) := by rw [← gj2, Int.natCast_emod, Int.natCast_add]; rfl
          have hmod2 : ((j : Int) + 1).tmod (rn : Int) = (j2 : Int) := by rw [Int.tmod_eq_emod_of_nonneg (by omega)]; exact hmod
          have hwr2 : IntKind.i64.wrap (j2 : Int) = (j2 : Int) := IntWalk.i64_in _ (by omega)
          have hrn0 : ((rn : Int) == 0) = false := beq_eq_false_iff_ne.2 (by omega)
          have hrn1 : ¬ rn = 0 := by omega
          have hnx : nxR rL (j + 1) f = fun y => if y = rL.getD j (0, 0, 0) then some (rL.getD j2 (0, 0, 0)) else nxR rL j f y := by
            rw [nxR, Hlr.out, gj2]
          have gx2 : rL[j] = rL.getD j (0, 0, 0) := by rw [List.getD_eq_getElem?_getD, List.getElem?_eq_getElem hjl]; rfl
          have hwx := Hwf.out (rL.getD j (0, 0, 0)) (by rw [← gx2]; exact List.getElem_mem hjl)
          obtain ⟨x, gx⟩ : ∃ v, rL.getD j (0, 0, 0) = v := ⟨_, rfl⟩
          obtain ⟨z, gz⟩ : ∃ v, rL.getD j2 (0, 0, 0) = v := ⟨_, rfl⟩
          rw [gx] at d1 d2 d3 hnx hwx
          rw [gz] at f1 f2 f3 hnx
          obtain ⟨x1, x2, x3⟩ := x
          obtain ⟨z1, z2, z3⟩ := z
          have Hnx := Lib.hid hnx
          have Hwx := Lib.hid hwx
          have HBc := Lib.hid (bel_al HB.out (.cells #[.int .i64 x1, .int .i64 x2, .int .i64 x3] 35))
          have HMc : RowKit.Hid (∃ S, MapD (wi.alloc (.cells #[.int .i64 x1, .int .i64 x2, .int .i64 x3] 35)) bm (i * 1000000 + j) (opV (nxR rL j f)) S) := Lib.hid (by obtain ⟨S, hS⟩ := HM.out; exact ⟨S, hS.al _⟩)
          have HXc := Lib.hid (HX.out.al (.cells #[.int .i64 x1, .int .i64 x2, .int .i64 x3] 35))
          have HDc := Lib.hid (Whole.new2 (w := wi) (t := 35) (cs := [.int .i64 x1, .int .i64 x2, .int .i64 x3]) rfl)
          have HF_ := Lib.hid (show ∀ W, Below wi.heap.size wi W → W.cell? ⟨b, of2 + j2 * 3, none⟩ = some (.int .i64 z1) ∧ W.cell? ⟨b, of2 + j2 * 3 + 1, none⟩ = some (.int .i64 z2) ∧ W.cell? ⟨b, of2 + j2 * 3 + 2, none⟩ = some (.int .i64 z3) from fun W hw => ⟨(hw.cell (p := ⟨b, of2 + j2 * 3, none⟩) (World.block_lt_of_cell? _ _ f1)).trans f1, (hw.cell (p := ⟨b, of2 + j2 * 3 + 1, none⟩) (World.block_lt_of_cell? _ _ f2)).trans f2, (hw.cell (p := ⟨b, of2 + j2 * 3 + 2, none⟩) (World.block_lt_of_cell? _ _ f3)).trans f3⟩)
          clear hc hb gx gx2 gz hjl hnx hwx gj2 HB HM HX f1 f2 f3
          go_upto_region 8 with fail
          clear d1 d2 d3
          obtain ⟨g1, g2, g3⟩ := HF_.out _ (below1 wi (.cells #[.int .i64 x1, .int .i64 x2, .int .i64 x3] 35))
          obtain ⟨wj, gwj⟩ : ∃ z, wi.alloc (.cells #[.int .i64 x1, .int .i64 x2, .int .i64 x3] 35) = z := ⟨_, rfl⟩
          obtain ⟨b7, gb7⟩ : ∃ z, wi.heap.size = z := ⟨_, rfl⟩
          rw [gwj] at HBc HMc HXc HDc g1 g2 g3 ⊢
          rw [gb7] at HDc ⊢
          clear gwj gb7 HF_
          have ld0 : ∀ w', Kept Nil_ wj.drew w' → w'.cell? ⟨b7, 0, none⟩ = some (.int .i64 x1) := fun w' h => h.nil_cell (HDc.out.dr.cell (i := 0) rfl)
          have ld1 : ∀ w', Kept Nil_ wj.drew w' → w'.cell? ⟨b7, 1, none⟩ = some (.int .i64 x2) := fun w' h => h.nil_cell (HDc.out.dr.cell (i := 1) rfl)
          have ld2 : ∀ w', Kept Nil_ wj.drew w' → w'.cell? ⟨b7, 2, none⟩ = some (.int .i64 x3) := fun w' h => h.nil_cell (HDc.out.dr.cell (i := 2) rfl)
          have ld3 : ∀ w', Kept Nil_ wj.drew w' → w'.cell? ⟨b5, 2, none⟩ = some (.slice (some ⟨b, of2, none⟩) rn rc) := fun w' h => h.nil_cell (HXc.out.dr.cell (i := 2) rfl)
          have ld4 : ∀ w', Kept Nil_ wj.drew w' → w'.cell? ⟨b, of2 + j2 * 3, none⟩ = some (.int .i64 z1) := fun w' h => h.nil_cell (show wj.drew.cell? _ = _ from g1)
          have ld5 : ∀ w', Kept Nil_ wj.drew w' → w'.cell? ⟨b, of2 + j2 * 3 + 1, none⟩ = some (.int .i64 z2) := fun w' h => h.nil_cell (show wj.drew.cell? _ = _ from g2)
          have ld6 : ∀ w', Kept Nil_ wj.drew w' → w'.cell? ⟨b, of2 + j2 * 3 + 2, none⟩ = some (.int .i64 z3) := fun w' h => h.nil_cell (show wj.drew.cell? _ = _ from g3)
          clear HDc g1 g2 g3
          refine wp_region_tail (Nil_) [12] (by kernel_rfl) ?_
          apply wpT_next 0 (some 24) (by kernel_rfl)
          · simp only [List.getElem?_toArray, List.getElem?_cons_succ, List.getElem?_cons_zero]; exact rfl
          · rfl
          · kernel_rfl
          · kernel_rfl
          · kernel_rfl
          · exact fun _ _ _ _ h => h
          apply Exists.intro
          apply And.intro
          · apply yr_run; rfl; intro w' hw'; go_simp; (try with_reducible rfl)
          simp only [Act.put, List.setIfInBounds_toArray, List.set_cons_zero, List.set_cons_succ]
          apply wpT_next 1 (some 25) (by kernel_rfl)
          · simp only [List.getElem?_toArray, List.getElem?_cons_succ, List.getElem?_cons_zero]; exact rfl
          · rfl
          · kernel_rfl
          · kernel_rfl
          · kernel_rfl
          · exact fun _ _ _ _ h => h
          apply Exists.intro
          apply And.intro
          · apply yr_run; rfl; intro w' hw'; go_simp; (try with_reducible rfl)
          simp only [Act.put, List.setIfInBounds_toArray, List.set_cons_zero, List.set_cons_succ]
          apply wpT_next 2 (some 26) (by kernel_rfl)
          · simp only [List.getElem?_toArray, List.getElem?_cons_succ, List.getElem?_cons_zero]; exact rfl
          · rfl
          · kernel_rfl
          · kernel_rfl
          · kernel_rfl
          · exact fun _ _ _ _ h => h
          apply Exists.intro
          apply And.intro
          · apply yr_run; rfl; intro w' hw'; go_simp; (try with_reducible rfl)
          simp only [Act.put, List.setIfInBounds_toArray, List.set_cons_zero, List.set_cons_succ]
          apply wpT_next 3 (some 27) (by kernel_rfl)
          · simp only [List.getElem?_toArray, List.getElem?_cons_succ, List.getElem?_cons_zero]; exact rfl
          · rfl
          · kernel_rfl
          · kernel_rfl
          · kernel_rfl
          · exact fun _ _ _ _ h => h
          apply Exists.intro
          apply And.intro
          · apply yr_run; rfl; intro w' hw'; go_simp; (try with_reducible rfl)
          simp only [Act.put, List.setIfInBounds_toArray, List.set_cons_zero, List.set_cons_succ]
          apply wpT_next 4 (some 28) (by kernel_rfl)
          · simp only [List.getElem?_toArray, List.getElem?_cons_succ, List.getElem?_cons_zero]; exact rfl
          · rfl
          · kernel_rfl
          · kernel_rfl
          · kernel_rfl
          · exact fun _ _ _ _ h => h
          apply Exists.intro
          apply And.intro
          · apply yr_run; rfl; intro w' hw'; go_simp; (try with_reducible rfl)
          simp only [Act.put, List.setIfInBounds_toArray, List.set_cons_zero, List.set_cons_succ]
          apply wpT_next 5 (some 29) (by kernel_rfl)
          · simp only [List.getElem?_toArray, List.getElem?_cons_succ, List.getElem?_cons_zero]; exact rfl
          · rfl
          · kernel_rfl
          · kernel_rfl
          · kernel_rfl
          · exact fun _ _ _ _ h => h
          apply Exists.intro
          apply And.intro
          · apply yr_run; rfl; intro w' hw'; go_simp; (try with_reducible rfl)
          simp only [Act.put, List.setIfInBounds_toArray, List.set_cons_zero, List.set_cons_succ]
          apply wpT_next 6 (some 30) (by kernel_rfl)
          · simp only [List.getElem?_toArray, List.getElem?_cons_succ, List.getElem?_cons_zero]; exact rfl
          · rfl
          · kernel_rfl
          · kernel_rfl
          · kernel_rfl
          · exact fun _ _ _ _ h => h
          apply Exists.intro
          apply And.intro
          · apply yr_run; rfl; intro w' hw'; go_simp; (try with_reducible rfl)
          simp only [Act.put, List.setIfInBounds_toArray, List.set_cons_zero, List.set_cons_succ]
          apply wpT_next 7 (some 31) (by kernel_rfl)
          · simp only [List.getElem?_toArray, List.getElem?_cons_succ, List.getElem?_cons_zero]; exact rfl
          · rfl
          · kernel_rfl
          · kernel_rfl
          · kernel_rfl
          · exact fun _ _ _ _ h => h
          apply Exists.intro
          apply And.intro
          · apply yr_run; rfl; intro w' hw'; go_simp; (try with_reducible rfl)
          simp only [Act.put, List.setIfInBounds_toArray, List.set_cons_zero, List.set_cons_succ]
          apply wpT_next 8 (some 32) (by kernel_rfl)
          · simp only [List.getElem?_toArray, List.getElem?_cons_succ, List.getElem?_cons_zero]; exact rfl
          · rfl
          · kernel_rfl
          · kernel_rfl
          · kernel_rfl
          · exact fun _ _ _ _ h => h
          apply Exists.intro
          apply And.intro
          · apply yr_run; rfl; intro w' hw'; go_simp; (try with_reducible rfl)
          simp only [Act.put, List.setIfInBounds_toArray, List.set_cons_zero, List.set_cons_succ]
          apply wpT_next 9 (some 33) (by kernel_rfl)
          · simp only [List.getElem?_toArray, List.getElem?_cons_succ, List.getElem?_cons_zero]; exact rfl
          · rfl
          · kernel_rfl
          · kernel_rfl
          · kernel_rfl
          · exact fun _ _ _ _ h => h
          apply Exists.intro
          apply And.intro
          · apply yr_run; rfl; intro w' hw'; go_simp; (try with_reducible rfl)
          simp only [Act.put, List.setIfInBounds_toArray, List.set_cons_zero, List.set_cons_succ]
          apply wpT_next 10 (some 34) (by kernel_rfl)
          · simp only [List.getElem?_toArray, List.getElem?_cons_succ, List.getElem?_cons_zero]; exact rfl
          · rfl
          · kernel_rfl
          · kernel_rfl
          · kernel_rfl
          · exact fun _ _ _ _ h => h
          apply Exists.intro
          apply And.intro
          · apply yr_run; rfl; intro w' hw'; go_simp; (try with_reducible rfl)
          simp only [Act.put, List.setIfInBounds_toArray, List.set_cons_zero, List.set_cons_succ]
          apply wpT_next 11 (some 35) (by kernel_rfl)
          · simp only [List.getElem?_toArray, List.getElem?_cons_succ, List.getElem?_cons_zero]; exact rfl
          · rfl
          · kernel_rfl
          · kernel_rfl
          · kernel_rfl
          · exact fun _ _ _ _ h => h
          apply Exists.intro
          apply And.intro
          · apply yr_run; rfl; intro w' hw'; go_simp; (try with_reducible rfl)
          simp only [Act.put, List.setIfInBounds_toArray, List.set_cons_zero, List.set_cons_succ]
          apply wpT_last 12
          · simp only [List.getElem?_toArray, List.getElem?_cons_succ, List.getElem?_cons_zero]; exact rfl
          · rfl
          · kernel_rfl
          · rfl
          · decide
          intro w' hw'
          have hcnt : i * 1000000 + j < maxLen := by unfold maxLen; omega
          obtain ⟨S, hS⟩ := HMc.out
          obtain ⟨w3, hrun, hm3, hg3⟩ := (hS.dr.bl hw').put (x := (x1, x2, x3)) Try.underlying94 hcnt Hwx.out (dV (z1, z2, z3))
          refine ⟨w3, exec_mapPut (by rfl) (by rfl) (by rfl) (by rfl) hrun, ?_⟩
          rw [opV_put] at hm3
          have HMs : RowKit.Hid (∃ S, MapD w3 bm (i * 1000000 + (j + 1)) (opV (nxR rL (j + 1) f)) S) := Lib.hid ⟨_, by rw [Hnx.out]; exact hm3.mono (by omega)⟩
          have HXs := Lib.hid ((HXc.out.dr.bl hw').grown hg3 (fun e => HNb.out (Option.some.inj e)))
          have HBs := Lib.hid (bel_grown (bel_bl (bel_dr HBc.out) hw') hg3 Hbl.out)
          clear hw' hrun hm3 hg3 hS hcnt HMc HXc HBc
          try simp only [Act.put, List.setIfInBounds_toArray, List.set_cons_zero, List.set_cons_succ]
          refine wpT_done (by kernel_rfl) ?_ _
          intro W8 hw8
          have HB8 := Lib.hid (bel_bl HBs.out hw8)
          have HX8 := Lib.hid (HXs.out.bl hw8)
          have HM8 : RowKit.Hid (∃ S, MapD W8 bm (i * 1000000 + (j + 1)) (opV (nxR rL (j + 1) f)) S) := Lib.hid (by obtain ⟨S, hS⟩ := HMs.out; exact ⟨S, hS.bl hw8⟩)
          clear hw8 HBs HXs HMs
          go_wp2
          go_roundw
          case rel => exact ⟨j + 1, by omega, by go_num, HB8, HM8, HX8⟩
          case measure => simp [intOf] <;> omega
        · obtain rfl : rn = j := by omega
          have HM2 : RowKit.Hid (∃ S, MapD wi bm ((i + 1) * 1000000) (opV (nxR rL rn f)) S) := Lib.hid (by obtain ⟨S, hS⟩ := HM.out; exact ⟨S, hS.mono (by omega)⟩)
          have HF2 : RowKit.Hid (sg = nxV (Vs.drop (i + 1)) (nxR rL rn f)) := Lib.hid (by rw [← Hlr.out]; exact HF1.out)
          clear HM HF1
          go_wp2
          go_roundw
          case rel => exact ⟨i + 1, _, by omega, by go_num, HB, HM2, HF2⟩
          case measure => simp [intOf] <;> omega
    · obtain rfl : n = i := by omega
      have hF := HF.out
      rw [List.drop_eq_nil_of_le (by have := Hlv.out; omega)] at hF
      replace hF : sg = f := hF
      subst hF
      go_wp2
      go_ret
      obtain ⟨S, hS⟩ := HM.out
      exact ⟨bm, _, S, rfl, hS, by omega, Hbl.out, HB.out⟩

end Go.Proofs.Ytahbfdhjgnlmdaa

/- As In2, but one of the first n, e, need not be waited for: it answers the same beside what comes behind. -/
namespace Go.Proofs.Ytahbfdhjgnlmdaa
open Go.RowKit

section
variable {P : Program} {ops : Array Oper} {Q : Exit → Act → World → Prop} {md : Region.Mode}
def tailE (md : Region.Mode) (ops : Array Oper) (n e : Nat) : Bool := (List.range ops.size).all fun k => decide (k < n) || match ops[k]? with | some o => (List.range n).all fun j => j == e || (depsOf md o).contains j | none => true
theorem tailE_spec {n e k : Nat} {o : Oper} (h : tailE md ops n e = true) (hk : n ≤ k) (ho : ops[k]? = some o) : ∀ j, j < n → j ≠ e → j ∈ depsOf md o := by
  intro j hj hje
  have hks := (Array.getElem?_eq_some_iff.1 ho).1
  have h1 := List.all_eq_true.1 h k (by simp [hks])
  rw [ho] at h1
  have h2 : decide (k < n) = false := decide_eq_false (by omega)
  simp only [h2, Bool.false_or] at h1
  have h3 := List.all_eq_true.1 h1 j (by simp [hj])
  have h4 : (j == e) = false := by simpa using hje
  rw [h4, Bool.false_or] at h3
  simpa using h3
theorem wpAny_in3 (n e : Nat) (S : Nat → Prop) {oe : Oper} (Γ : Nat → Value → World → Prop) (G : World → Prop) (a0 : Act) (hΓ : ∀ i v w w', Γ i v w → Ext w w' → Γ i v w') (hG : ∀ w w', G w → Ext w w' → G w')
    (hd : distinctB ops = true) (hr : risingB md ops = true) (hn : n ≤ ops.size) (ht : tailE md ops n e = true) (hen : e < n) (hoe : ops[e]? = some oe) (hsel : Region.noSelect ops = true)
    (hfr : Region.free md ops ((upTo n ops.size).setIfInBounds e false) e = true) (hrd : (Region.ready md ops ((upTo n ops.size).setIfInBounds e false)).contains e = true)
    (hQ : ∀ v c a w, Q (.panic c) (a.put oe.dst v) w → Q (.panic c) a w) (hstep : ∀ i, i < n → StepOk P md ops Γ G a0 i)
    (hone_ : ∀ x w, G w → (∀ i, i < n → i ≠ e → Γ i (x i) w) → ∃ v, YieldsR P ops S oe v (putAll x (dsts ops) 0 a0) w ∧ Γ e v w)
    (hend : ∀ x w, G w → (∀ i, i < n → Γ i (x i) w) → wpR P md ops S Q (ops.size - n) (upTo n ops.size) (putAll x (dsts ops) 0 a0) w) :
    ∀ (fuel : Nat) (listed : Array Bool) (x : Nat → Value) (w : World), listed.size = ops.size → (∀ k, n ≤ k → k < ops.size → listed.getD k false = false) → (List.range ops.size).countP (fun j => listed.getD j false) + fuel = ops.size →
      G w → (∀ i, i < n → listed.getD i false = true → Γ i (x i) w) → wpAny P md ops Q fuel listed (putAll x (dsts ops) 0 a0) w := by
  have hfree : ∀ (listed : Array Bool), listed.size = ops.size → (¬ ∀ i, i < n → listed.getD i false = true) → ∃ i, i < n ∧ i ∈ Region.ready md ops listed := by
    intro listed hs hno
    by_cases hex : ∃ i, i < n ∧ i ∈ Region.ready md ops listed
    · exact hex
    · exfalso
      refine hno fun i => ?_
      induction i using Nat.strongRecOn with
      | _ i ih =>
        intro hi
        by_cases hl : listed.getD i false = true
        · exact hl
        · exfalso
          refine hex ⟨i, hi, ?_⟩
          rw [mem_ready]
          have his : i < ops.size := by omega
          have hil : i < listed.size := by omega
          have h1 : listed.getD i true = false := by
            simp [Array.getD, hil] at hl ⊢
            exact hl
          refine ⟨h1, ops[i], by simp [his], fun e he hb => ?_⟩
          have h2 := List.all_eq_true.1 (show (List.range ops.size).all _ = true from hr) i (by simp [his])
          simp [his] at h2
          have h3 := h2 e.on (by
            unfold depsOf
            exact List.mem_map.2 ⟨e, List.mem_filter.2 ⟨by simpa using he, hb⟩, rfl⟩)
          exact ih e.on h3 (by omega)
  intro fuel
  induction fuel with
  | zero =>
    intro listed x w hs hk hc hg hx
    have hl : ∀ i, i < ops.size → listed.getD i false = true := fun i hi => by
      have h1 : (List.range ops.size).countP (fun j => listed.getD j false) = (List.range ops.size).length := by simpa using hc
      exact List.countP_eq_length.1 h1 i (by simp [hi])
    have hno : n = ops.size := by
      rcases Nat.lt_or_ge n ops.size with h | h
      · have h1 := hl n h
        rw [hk n (Nat.le_refl _) h] at h1
        cases h1
      · omega
    have he := hend x w hg fun i hi => hx i hi (hl i (by omega))
    rw [show ops.size - n = 0 by omega] at he
    have e1 : listed = upTo n ops.size := by
      apply Array.ext
      · rw [upTo_size, hs]
      · intro j h1 h2
        have h3 := hl j (by omega)
        have h4 := upTo_get n ops.size j (by omega)
        rw [decide_eq_true (by omega)] at h4
        simp [Array.getD, h1] at h3
        simp [Array.getD, h2] at h4
        rw [h3, h4]
    rw [e1]
    exact wpAny_of_R _ _ _ _ he
  | succ fuel ih =>
    intro listed x w hs hk hc hg hx
    by_cases hall : ∀ i, i < n → listed.getD i false = true
    · have he := hend x w hg fun i hi => hx i hi (hall i hi)
      have e1 : listed = upTo n ops.size := by
        apply Array.ext
        · rw [upTo_size, hs]
        · intro j h1 h2
          have h4 := upTo_get n ops.size j (by omega)
          simp [Array.getD, h2] at h4
          by_cases hj : j < n
          · have h3 := hall j hj
            simp [Array.getD, h1] at h3
            rw [h3, h4, decide_eq_true hj]
          · have h3 := hk j (by omega) (by omega)
            simp [Array.getD, h1] at h3
            rw [h3, h4, decide_eq_false hj]
      have e2 : (List.range ops.size).countP (fun j => listed.getD j false) = n := by
        rw [e1]
        have : (List.range ops.size).countP (fun j => (upTo n ops.size).getD j false) = (List.range ops.size).countP (fun j => decide (j < n)) := by
          apply List.countP_congr
          intro j hj
          rw [upTo_get n ops.size j (by simpa using hj)]
        rw [this, countP_lt]
        omega
      rw [show ops.size - n = fuel + 1 by omega] at he
      rw [e1]
      exact wpAny_of_R _ _ _ _ he
    · by_cases hall2 : ∀ i, i < n → i ≠ e → listed.getD i false = true
      · have hef : listed.getD e false = false := by
          cases hb : listed.getD e false with
          | false => rfl
          | true =>
            refine absurd (fun i hi => ?_) hall
            by_cases hie : i = e
            · rw [hie]; exact hb
            · exact hall2 i hi hie
        have e1 : listed.setIfInBounds e true = upTo n ops.size := by
          apply Array.ext
          · rw [upTo_size, Array.size_setIfInBounds, hs]
          · intro j h1 h2
            have hjl : j < listed.size := by simpa using h1
            have h4 := upTo_get n ops.size j (by rw [← hs]; exact hjl)
            simp [Array.getD, h2] at h4
            rw [Array.getElem_setIfInBounds (by simpa using h1)]
            by_cases hje : e = j
            · subst hje
              rw [if_pos rfl, h4, decide_eq_true hen]
            · rw [if_neg hje]
              by_cases hj : j < n
              · have h3 := hall2 j hj (Ne.symm hje)
                simp [Array.getD, hjl] at h3
                rw [h3, h4, decide_eq_true hj]
              · have h3 := hk j (by omega) (by omega)
                simp [Array.getD, hjl] at h3
                rw [h3, h4, decide_eq_false hj]
        have e3 : listed = (upTo n ops.size).setIfInBounds e false := by
          rw [← e1, Array.setIfInBounds_setIfInBounds]
          apply Array.ext
          · simp
          · intro j h1 h2
            rw [Array.getElem_setIfInBounds (by simpa using h2)]
            by_cases hje : e = j
            · subst hje
              rw [if_pos rfl]
              simp [Array.getD, h1] at hef
              exact hef
            · rw [if_neg hje]
        have e2 : (List.range ops.size).countP (fun j => listed.getD j false) + 1 = n := by
          have h1 : (List.range ops.size).countP (fun j => (upTo n ops.size).getD j false) = (List.range ops.size).countP (fun j => decide (j < n)) := by
            apply List.countP_congr
            intro j hj
            rw [upTo_get n ops.size j (by simpa using hj)]
          have hel : e < listed.size := by omega
          have hone := countP_one (fun j => listed.getD j false) (fun j => (listed.setIfInBounds e true).getD j false) e hef (by simp [Array.getD, hel]) (fun j hj => getD_set_ne false (Ne.symm hj)) ops.size
          rw [e1, h1, countP_lt, if_pos (by omega)] at hone
          omega
        obtain ⟨v, hy, hv⟩ := hone_ x w hg fun i hi hie => hx i hi (hall2 i hi hie)
        have hds : (dsts ops)[e]? = some oe.dst := by
          unfold dsts
          rw [List.getElem?_map, Array.getElem?_toList, hoe]
          rfl
        have hput : (putAll x (dsts ops) 0 a0).put oe.dst v = putAll (upd x e v) (dsts ops) 0 a0 :=
          putAll_set x e v (dsts ops) 0 a0 oe.dst (Nat.zero_le _) (by simpa using hds) (fun j e2 hj hne t ht he => by
            rw [Nat.sub_zero] at hne
            rw [ht] at hds
            rw [he] at hj
            exact hne (distinct_spec hd hj hds))
        have he := hend (upd x e v) w hg fun i hi => by
          by_cases hie : i = e
          · subst hie
            simpa [upd] using hv
          · rw [show upd x e v i = x i from if_neg hie]
            exact hx i hi (hall2 i hi hie)
        rw [show ops.size - n = fuel by omega, ← hput, ← e1] at he
        refine wpAny_of_R _ _ _ _ (wpR_next e oe.dst hoe rfl hsel ?_ ?_ hQ ⟨v, hy, he⟩)
        · rw [e3]; exact hfr
        · rw [e3]; exact hrd
      obtain ⟨i0, hi0, hi0r⟩ := hfree listed hs hall
      refine ⟨fun h0 => (by rw [h0] at hi0r; cases hi0r), fun i hi => ?_⟩
      obtain ⟨h1, o, ho, hdep⟩ := mem_ready.1 hi
      have his : i < ops.size := (Array.getElem?_eq_some_iff.1 ho).1
      have hil : i < listed.size := by omega
      have hin : i < n := by
        rcases Nat.lt_or_ge i n with h | h
        · exact h
        · exfalso
          refine hall2 fun j hj hje => ?_
          have h2 := tailE_spec ht h ho j hj hje
          unfold depsOf at h2
          obtain ⟨e, he, rfl⟩ := List.mem_map.1 h2
          obtain ⟨he1, he2⟩ := List.mem_filter.1 he
          exact hdep e (by simpa using he1) he2
      have hds : (dsts ops)[i]? = some o.dst := by
        unfold dsts
        rw [List.getElem?_map, Array.getElem?_toList, ho]
        rfl
      have hput : ∀ v, (putAll x (dsts ops) 0 a0).put o.dst v = putAll (upd x i v) (dsts ops) 0 a0 := fun v =>
        putAll_set x i v (dsts ops) 0 a0 o.dst (Nat.zero_le _) (by simpa using hds) (fun j e hj hne t ht he => by
          rw [Nat.sub_zero] at hne
          rw [ht] at hds
          rw [he] at hj
          exact hne (distinct_spec hd hj hds))
      have hnext : ∀ v w', Ext w w' → Γ i v w' → wpAny P md ops Q fuel (listed.setIfInBounds i true) (putAll (upd x i v) (dsts ops) 0 a0) w' := fun v w' hw hv => by
        refine ih _ _ _ (by simpa using hs) (fun k h1 h2 => ?_) ?_ (hG _ _ hg hw) fun j hj1 hj => ?_
        · rw [getD_set_ne false (by omega)]
          exact hk k h1 h2
        · have hone := countP_one (fun j => listed.getD j false) (fun j => (listed.setIfInBounds i true).getD j false) i (by simp [Array.getD, hil] at h1 ⊢; exact h1) (by simp [Array.getD, hil]) (fun j hj => getD_set_ne false (Ne.symm hj)) ops.size
          rw [hone, if_pos his]
          omega
        · by_cases e : j = i
          · subst e
            simpa [upd] using hv
          · rw [getD_set_ne false (Ne.symm e)] at hj
            rw [show upd x i v j = x j from if_neg e]
            exact hΓ _ _ _ _ (hx j hj1 hj) hw
      have hok := hstep i hin o ho x w hg (fun j hj => by
        have hji : j < i := by
          have h2 := List.all_eq_true.1 (show (List.range ops.size).all _ = true from hr) i (by simp [his])
          rw [ho] at h2
          simpa using List.all_eq_true.1 h2 j hj
        unfold depsOf at hj
        obtain ⟨e, he, rfl⟩ := List.mem_map.1 hj
        obtain ⟨he1, he2⟩ := List.mem_filter.1 he
        exact hx _ (by omega) (hdep e (by simpa using he1) he2))
      unfold wpOp
      simp only [ho]
      rcases hok with ⟨hw, hout⟩ | ⟨hw, hu⟩
      · simp only [hw, if_true]
        exact .inl (hout.wp fun v w' hx1 hv => by rw [hput]; exact hnext v w' hx1 hv)
      · simp only [hw, Bool.false_eq_true, if_false]
        rw [hput]
        exact hnext undef w (Ext.refl w) hu

theorem wp_region_in3 (n e : Nat) (S : Nat → Prop) {id : Nat} {a0 : Act} {w : World} {oe : Oper} (Γ : Nat → Value → World → Prop) (G : World → Prop) (hm : P.follows .mixedOrders = true)
    (hd : distinctB ops = true) (hr : risingB .any ops = true) (hn : decide (n ≤ ops.size) = true) (ht : tailE .any ops n e = true) (hen : decide (e < n) = true) (hoe : ops[e]? = some oe) (hsel : Region.noSelect ops = true)
    (hfr : Region.free .any ops ((upTo n ops.size).setIfInBounds e false) e = true) (hrd : (Region.ready .any ops ((upTo n ops.size).setIfInBounds e false)).contains e = true)
    (hQ : ∀ v c a w, Q (.panic c) (a.put oe.dst v) w → Q (.panic c) a w)
    (hΓ : ∀ i v w w', Γ i v w → Ext w w' → Γ i v w') (hG : ∀ w w', G w → Ext w w' → G w') (hg : G w.drew)
    (hstep : ∀ i, i < n → StepOk P .any ops Γ G a0 i)
    (hone_ : ∀ x w, G w → (∀ i, i < n → i ≠ e → Γ i (x i) w) → ∃ v, YieldsR P ops S oe v (putAll x (dsts ops) 0 a0) w ∧ Γ e v w)
    (hend : ∀ x w, G w → (∀ i, i < n → Γ i (x i) w) → wpR P .any ops S Q (ops.size - n) (upTo n ops.size) (putAll x (dsts ops) 0 a0) w) : (Code.region id ops true).wp P Q a0 w := by
  obtain ⟨x, hx⟩ := putAll_self (dsts ops) 0 a0
  have hz : ∀ k, (Array.replicate ops.size false).getD k false = false := fun k => by
    by_cases h : k < ops.size <;> simp [Array.getD, h]
  have h := wpAny_in3 (P := P) (Q := Q) (md := .any) n e S Γ G a0 hΓ hG hd hr (of_decide_eq_true hn) ht (of_decide_eq_true hen) hoe hsel hfr hrd hQ hstep hone_ hend ops.size (Array.replicate ops.size false) x w.drew (by simp) (fun k _ _ => hz k) (by
    have : (List.range ops.size).countP (fun j => (Array.replicate ops.size false).getD j false) = 0 := by
      rw [List.countP_eq_zero]
      intro j hj
      rw [hz j]
      simp
    omega) hg (fun i _ hi => by rw [hz i] at hi; cases hi)
  rw [hx] at h
  exact wp_region_any hm h
end
end Go.Proofs.Ytahbfdhjgnlmdaa

/- What the operations of a drawn region come to, as a list; one of them makes a new variable. -/
namespace Go.Proofs.Ytahbfdhjgnlmdaa
open Go.RowKit
set_option linter.unusedSimpArgs false
set_option linter.unusedVariables false

def gamL (vs : List (Option Value)) (ai B : Nat) (T : TypeId) (cs : List Value) (i : Nat) (v : Value) (W : World) : Prop :=
  if i = ai then ∃ g, v = .pointer (some ⟨g, 0, none⟩) ∧ B ≤ g ∧ Whole W g T cs else match vs[i]? with
    | some (some u) => v = u
    | _ => True
theorem gamL_up {vs : List (Option Value)} {ai B : Nat} {T : TypeId} {cs : List Value} (i : Nat) (v : Value) (W W' : World) (h : gamL vs ai B T cs i v W) (hx : Ext W W') : gamL vs ai B T cs i v W' := by
  unfold gamL at h ⊢
  split at h
  · rename_i e
    rw [if_pos e]
    obtain ⟨g, h1, h2, h3⟩ := h
    exact ⟨g, h1, h2, h3.bl hx⟩
  · rename_i e
    rw [if_neg e]
    exact h
end Go.Proofs.Ytahbfdhjgnlmdaa
