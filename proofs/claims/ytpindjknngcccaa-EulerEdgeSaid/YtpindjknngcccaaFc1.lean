/- face.sigmas. -/
import Derived.Test.YtpindjknngcccaaMpD
import Derived.Test.YtpindjknngcccaaGE
namespace Go.Proofs.Ytpindjknngcccaa
open Go.RowKit
set_option linter.unusedSimpArgs false
set_option linter.unusedVariables false


/-- The next one round a vertex, of the first k darts of its ring. -/
def nxR (R : List D) : Nat → (D → Option D) → D → Option D
  | 0, f => f
  | k + 1, f => fun y => if y = R.getD k (0, 0, 0) then some (R.getD ((k + 1) % R.length) (0, 0, 0)) else nxR R k f y
def nxV : List VC → (D → Option D) → D → Option D
  | [], f => f
  | v :: r, f => nxV r (nxR v.2.1.2.2.2 v.2.1.2.2.2.length f)
def sigM (Vs : List VC) : D → Option D := nxV Vs (fun _ => none)
def opV (f : D → Option D) (y : D) : Option Value := (f y).map dV
theorem opV_put (f : D → Option D) (x z : D) : (fun y => if y = x then some (dV z) else opV f y) = opV (fun y => if y = x then some z else f y) := by
  funext y
  unfold opV
  by_cases h : y = x <;> simp [h]
set_option maxRecDepth 100000 in
set_option maxHeartbeats 4000000 in
theorem sigmas_any (A : Option Addr) (n c : Nat) (Vs : List VC) (B : Option Addr) (m k : Nat) (Es : List EC) (w : World) (h : DgIn w A n c Vs B m k Es) (hn : n ≤ 1000000) (hr : ∀ x ∈ Vs, x.2.1.2.1 ≤ 1000000) (hv : ∀ v ∈ Vs, ∀ d ∈ v.2.1.2.2.2, wfD d) :
    Calls Try.prog 64 #[.agg #[.slice A n c, .slice B m k]] w fun e w' => ∃ b q S, e = .returned (.map (some b)) ∧ MapD w' b q (opV (sigM Vs)) S ∧ q ≤ 1000000000000 ∧ w.heap.size ≤ b ∧ Below w.heap.size w w' := by
  have HV := Lib.hid h.v
  have HRg := Lib.hid h.r
  have Hlv := Lib.hid (h.v.rlen vC_len (by decide))
  have Hhv := Lib.hid hv
  have Hhr := Lib.hid hr
  obtain ⟨sg, gsg⟩ : ∃ z, sigM Vs = z := ⟨_, rfl⟩
  have HSg := Lib.hid gsg
  rw [gsg]
  clear h hv hr gsg
  have hmm := @run_makeMap Try.prog
  go_enter Try.func64, Try.ntmps64
  go_upto_region 1 with fail
  have hx0 : Whole (w.alloc (.cells #[.slice A n c, .slice B m k] 25)) (w.heap.size) 25 [.slice A n c, .slice B m k] := (Whole.new_ w 25 [.slice A n c, .slice B m k])
  have hbl : Below w.heap.size w (w.alloc (.cells #[.slice A n c, .slice B m k] 25)) := (below1 w (.cells #[.slice A n c, .slice B m k] 25))
  have hsz : w.heap.size + 1 ≤ ((w.alloc (.cells #[.slice A n c, .slice B m k] 25))).heap.size := by simp
  obtain ⟨W0, gW0⟩ : ∃ z, (w.alloc (.cells #[.slice A n c, .slice B m k] 25)) = z := ⟨_, rfl⟩
  rw [gW0] at hx0 hbl hsz
  obtain ⟨b0, gb0⟩ : ∃ z, w.heap.size = z := ⟨_, rfl⟩
  rw [gb0] at hx0
  have HX0 := Lib.hid hx0
  have HB0 := Lib.hid hbl
  have HS0 := Lib.hid hsz
  have Gb0 := Lib.hid gb0
  have Lb0 : RowKit.Hid (w.heap.size ≤ b0) := Lib.hid (by omega)
  rw [gW0, gb0]
  clear gW0 hbl hsz hx0 gb0
  have HMa : RowKit.Hid (∃ S, MapD (W0.alloc (.map #[] 0)) W0.heap.size (0 * 1000000) (opV (fun _ => none)) S) := Lib.hid ⟨[], show MapD _ _ _ (fun _ => none) _ from (MapD.made).mono (by omega)⟩
  have HBa := Lib.hid (bel_al HB0.out (.map #[] 0))
  have Hbl : RowKit.Hid (w.heap.size ≤ W0.heap.size) := Lib.hid HB0.out.size
  have c0 := (HX0.out.al (.map #[] 0)).cell (i := 0) rfl
  have HF0 : RowKit.Hid (sg = nxV (Vs.drop 0) (fun _ => none)) := Lib.hid (by rw [← HSg.out, List.drop_zero]; rfl)
  go_wp2
  clear c0 hmm
  obtain ⟨W2, gW2⟩ : ∃ z, W0.alloc (.map #[] 0) = z := ⟨_, rfl⟩
  obtain ⟨bm, gbm⟩ : ∃ z, W0.heap.size = z := ⟨_, rfl⟩
  rw [gW2] at HMa HBa ⊢
  rw [gbm] at HMa Hbl ⊢
  clear gW2 gbm HX0 HB0 HS0 HSg
  go_loopw [12] (fun si wr => ∃ (i : Nat) (f : D → Option D), i ≤ n ∧ si = .int .i64 i ∧ RowKit.Hid (Below w.heap.size w wr) ∧ RowKit.Hid (∃ S, MapD wr bm (i * 1000000) (opV f) S) ∧ RowKit.Hid (sg = nxV (Vs.drop i) f)) (fun si _ => n - (intOf si).toNat)
  case atStart => exact ⟨0, _, by omega, rfl, HBa, HMa, HF0⟩
  case round =>
    clear HBa HMa HF0
    obtain ⟨i, f, hi, rfl, HB, HM, HF⟩ := hrel
    obtain ⟨wo, gwo⟩ : ∃ z, wr = z := ⟨_, rfl⟩
    rw [gwo] at HB HM ⊢
    clear gwo
    by_cases hin : i < n
    · obtain ⟨v, hx⟩ : ∃ v, Vs[i]? = some v := ⟨_, List.getElem?_eq_getElem (by have := Hlv.out; omega)⟩
      have hdr : Vs.drop i = v :: Vs.drop (i + 1) := by
        rw [List.drop_eq_getElem_cons (List.getElem?_eq_some_iff.1 hx).1, (List.getElem?_eq_some_iff.1 hx).2]
      have hvm := List.mem_of_getElem? hx
      have hrg := HRg.out v hvm
      have hrn := Hhr.out v hvm
      have hwf := Hhv.out v hvm
      have hF := HF.out
      rw [hdr, nxV] at hF
      obtain ⟨bb, off, rfl, hbB, hpl⟩ := HV.out.place vC_len (by decide) (by omega)
      have hbw := HB.out
      have q0 := hpl i _ hx 0 _ rfl
      have q1 := hpl i _ hx 1 _ rfl
      have q2 := hpl i _ hx 2 _ rfl
      have q3 := hpl i _ hx 3 _ rfl
      have q4 := hpl i _ hx 4 _ rfl
      simp only [Addr.add_lit, Nat.add_zero] at q0 q1 q2 q3 q4
      have l0 := (hbw.cell (p := ⟨bb, off + i * 5, none⟩) hbB).trans q0
      have l1 := (hbw.cell (p := ⟨bb, off + i * 5 + 1, none⟩) hbB).trans q1
      have l2 := (hbw.cell (p := ⟨bb, off + i * 5 + 2, none⟩) hbB).trans q2
      have l3 := (hbw.cell (p := ⟨bb, off + i * 5 + 3, none⟩) hbB).trans q3
      have l4 := (hbw.cell (p := ⟨bb, off + i * 5 + 4, none⟩) hbB).trans q4
      clear hbw q0 q1 q2 q3 q4
      obtain ⟨⟨i1, i2⟩, ⟨rA, rn, rc, rL⟩, lb, at_⟩ := v
      replace hrn : rn ≤ 1000000 := hrn
      have HR : RowKit.Hid (RdS w w.heap.size 3 rA rn rc (dartsV rL)) := Lib.hid hrg.2
      have Hlr := Lib.hid HR.out.dlen
      have Hwf : RowKit.Hid (∀ d ∈ rL, wfD d) := Lib.hid hwf
      have HF1 : RowKit.Hid (sg = nxV (Vs.drop (i + 1)) (nxR rL rL.length f)) := Lib.hid hF
      have HBb := Lib.hid (bel_al HB.out (.cells #[.int .i64 i1, .int .i64 i2, .slice rA rn rc, .string lb, .int .i64 at_] 42))
      have HMb : RowKit.Hid (∃ S, MapD (wo.alloc (.cells #[.int .i64 i1, .int .i64 i2, .slice rA rn rc, .string lb, .int .i64 at_] 42)) bm (i * 1000000 + 0) (opV (nxR rL 0 f)) S) := Lib.hid (by obtain ⟨S, hS⟩ := HM.out; exact ⟨S, (hS.mono (by omega)).al _⟩)
      have HXb := Lib.hid (Whole.new2 (w := wo) (t := 42) (cs := [.int .i64 i1, .int .i64 i2, .slice rA rn rc, .string lb, .int .i64 at_]) rfl)
      have HLb : RowKit.Hid (w.heap.size ≤ wo.heap.size) := Lib.hid HB.out.size
      have HNb : RowKit.Hid (wo.heap.size ≠ bm) := Lib.hid (by obtain ⟨S, hS⟩ := HM.out; have := hS.lt; omega)
      have c2 := HXb.out.cell (i := 2) rfl
      clear hx hdr hvm hrg hwf hF hpl hbB HF HM
      go_wp2
      clear l0 l1 l2 l3 l4 HB c2
      obtain ⟨wa, gwa⟩ : ∃ z, wo.alloc (.cells #[.int .i64 i1, .int .i64 i2, .slice rA rn rc, .string lb, .int .i64 at_] 42) = z := ⟨_, rfl⟩
      obtain ⟨b5, gb5⟩ : ∃ z, wo.heap.size = z := ⟨_, rfl⟩
      rw [gwa] at HBb HMb HXb ⊢
      rw [gb5] at HXb HLb HNb ⊢
      clear gwa gb5
      go_loopw [19] (fun sj wr => ∃ j : Nat, j ≤ rn ∧ sj = .int .i64 j ∧ RowKit.Hid (Below w.heap.size w wr) ∧ RowKit.Hid (∃ S, MapD wr bm (i * 1000000 + j) (opV (nxR rL j f)) S) ∧ RowKit.Hid (Whole wr b5 42 [.int .i64 i1, .int .i64 i2, .slice rA rn rc, .string lb, .int .i64 at_])) (fun sj _ => rn - (intOf sj).toNat)
      case atStart => exact ⟨0, by omega, rfl, HBb, HMb, HXb⟩
      case round =>
        clear HBb HMb HXb
        obtain ⟨j, hj, rfl, HB, HM, HX⟩ := hrel
        obtain ⟨wi, gwi⟩ : ∃ z, wr = z := ⟨_, rfl⟩
        rw [gwi] at HB HM HX ⊢
        clear gwi
        by_cases hjr : j < rn
        · obtain ⟨b, of2, rfl, hb, hc⟩ := (HR.out.up HB.out HB.out.size).darts (by omega)
          have hjl : j < rL.length := by have := Hlr.out; omega
          obtain ⟨d1, d2, d3⟩ := hc j hjl
          obtain ⟨j2, gj2⟩ : ∃ z, (j + 1) % rn = z := ⟨_, rfl⟩
          have hj2 : j2 < rn := by rw [← gj2]; exact Nat.mod_lt _ (by omega)
          obtain ⟨f1, f2, f3⟩ := hc j2 (by have := Hlr.out; omega)
          have hwr1 : IntKind.i64.wrap ((j : Int) + 1) = (j : Int) + 1 := IntWalk.i64_in _ (by omega)
          have hmod : ((j : Int) + 1) % (rn : Int) = (j2 : Int) := by rw [← gj2, Int.natCast_emod, Int.natCast_add]; rfl
          have hmod2 : ((j : Int) + 1).tmod (rn : Int) = (j2 : Int) := by rw [Int.tmod_eq_emod_of_nonneg (by omega)]; exact hmod
          have hwr2 : IntKind.i64.wrap (j2 : Int) = (j2 : Int) := IntWalk.i64_in _ (by omega)
          have hrn0 : ((rn : Int) == 0) = false := beq_eq_false_iff_ne.2 (by omega)
          have hrn1 : ¬ rn = 0 := by omega
          have hnx : nxR rL (j + 1) f = fun y => if y = rL.getD j (0, 0, 0) then some (rL.getD j2 (0, 0, 0)) else nxR rL j f y := by
            rw [nxR, Hlr.out, gj2]
          have gx2 : rL[j] = rL.getD j (0, 0, 0) := by rw [List.getD_eq_getElem?_getD, List.getElem?_eq_getElem hjl]; rfl
          have hwx := Hwf.out (rL.getD j (0, 0, 0)) (by rw [← gx2]; exact List.getElem_mem hjl)
          obtain ⟨x, gx⟩ : ∃ v, rL.getD j (0, 0, 0) = v := ⟨_, rfl⟩
          obtain ⟨z, gz⟩ : ∃ v, rL.getD j2 (0, 0, 0) = v := ⟨_, rfl⟩
          rw [gx] at d1 d2 d3 hnx hwx
          rw [gz] at f1 f2 f3 hnx
          obtain ⟨x1, x2, x3⟩ := x
          obtain ⟨z1, z2, z3⟩ := z
          have Hnx := Lib.hid hnx
          have Hwx := Lib.hid hwx
          have HBc := Lib.hid (bel_al HB.out (.cells #[.int .i64 x1, .int .i64 x2, .int .i64 x3] 39))
          have HMc : RowKit.Hid (∃ S, MapD (wi.alloc (.cells #[.int .i64 x1, .int .i64 x2, .int .i64 x3] 39)) bm (i * 1000000 + j) (opV (nxR rL j f)) S) := Lib.hid (by obtain ⟨S, hS⟩ := HM.out; exact ⟨S, hS.al _⟩)
          have HXc := Lib.hid (HX.out.al (.cells #[.int .i64 x1, .int .i64 x2, .int .i64 x3] 39))
          have HDc := Lib.hid (Whole.new2 (w := wi) (t := 39) (cs := [.int .i64 x1, .int .i64 x2, .int .i64 x3]) rfl)
          have HF_ := Lib.hid (show ∀ W, Below wi.heap.size wi W → W.cell? ⟨b, of2 + j2 * 3, none⟩ = some (.int .i64 z1) ∧ W.cell? ⟨b, of2 + j2 * 3 + 1, none⟩ = some (.int .i64 z2) ∧ W.cell? ⟨b, of2 + j2 * 3 + 2, none⟩ = some (.int .i64 z3) from fun W hw => ⟨(hw.cell (p := ⟨b, of2 + j2 * 3, none⟩) (World.block_lt_of_cell? _ _ f1)).trans f1, (hw.cell (p := ⟨b, of2 + j2 * 3 + 1, none⟩) (World.block_lt_of_cell? _ _ f2)).trans f2, (hw.cell (p := ⟨b, of2 + j2 * 3 + 2, none⟩) (World.block_lt_of_cell? _ _ f3)).trans f3⟩)
          clear hc hb gx gx2 gz hjl hnx hwx gj2 HB HM HX f1 f2 f3
          go_upto_region 8 with fail
          clear d1 d2 d3
          obtain ⟨g1, g2, g3⟩ := HF_.out _ (below1 wi (.cells #[.int .i64 x1, .int .i64 x2, .int .i64 x3] 39))
          obtain ⟨wj, gwj⟩ : ∃ z, wi.alloc (.cells #[.int .i64 x1, .int .i64 x2, .int .i64 x3] 39) = z := ⟨_, rfl⟩
          obtain ⟨b7, gb7⟩ : ∃ z, wi.heap.size = z := ⟨_, rfl⟩
          rw [gwj] at HBc HMc HXc HDc g1 g2 g3 ⊢
          rw [gb7] at HDc ⊢
          clear gwj gb7 HF_
          have ld0 : ∀ w', Kept Nil_ wj.drew w' → w'.cell? ⟨b7, 0, none⟩ = some (.int .i64 x1) := fun w' h => h.nil_cell (HDc.out.dr.cell (i := 0) rfl)
          have ld1 : ∀ w', Kept Nil_ wj.drew w' → w'.cell? ⟨b7, 1, none⟩ = some (.int .i64 x2) := fun w' h => h.nil_cell (HDc.out.dr.cell (i := 1) rfl)
          have ld2 : ∀ w', Kept Nil_ wj.drew w' → w'.cell? ⟨b7, 2, none⟩ = some (.int .i64 x3) := fun w' h => h.nil_cell (HDc.out.dr.cell (i := 2) rfl)
          have ld3 : ∀ w', Kept Nil_ wj.drew w' → w'.cell? ⟨b5, 2, none⟩ = some (.slice (some ⟨b, of2, none⟩) rn rc) := fun w' h => h.nil_cell (HXc.out.dr.cell (i := 2) rfl)
          have ld4 : ∀ w', Kept Nil_ wj.drew w' → w'.cell? ⟨b, of2 + j2 * 3, none⟩ = some (.int .i64 z1) := fun w' h => h.nil_cell (show wj.drew.cell? _ = _ from g1)
          have ld5 : ∀ w', Kept Nil_ wj.drew w' → w'.cell? ⟨b, of2 + j2 * 3 + 1, none⟩ = some (.int .i64 z2) := fun w' h => h.nil_cell (show wj.drew.cell? _ = _ from g2)
          have ld6 : ∀ w', Kept Nil_ wj.drew w' → w'.cell? ⟨b, of2 + j2 * 3 + 2, none⟩ = some (.int .i64 z3) := fun w' h => h.nil_cell (show wj.drew.cell? _ = _ from g3)
          clear HDc g1 g2 g3
          refine wp_region_tail (Nil_) [12] (by kernel_rfl) ?_
          apply wpT_next 0 (some 24) (by kernel_rfl)
          · simp only [List.getElem?_toArray, List.getElem?_cons_succ, List.getElem?_cons_zero]; exact rfl
          · rfl
          · kernel_rfl
          · kernel_rfl
          · kernel_rfl
          · exact fun _ _ _ _ h => h
          apply Exists.intro
          apply And.intro
          · apply yr_run; rfl; intro w' hw'; go_simp; (try with_reducible rfl)
          simp only [Act.put, List.setIfInBounds_toArray, List.set_cons_zero, List.set_cons_succ]
          apply wpT_next 1 (some 25) (by kernel_rfl)
          · simp only [List.getElem?_toArray, List.getElem?_cons_succ, List.getElem?_cons_zero]; exact rfl
          · rfl
          · kernel_rfl
          · kernel_rfl
          · kernel_rfl
          · exact fun _ _ _ _ h => h
          apply Exists.intro
          apply And.intro
          · apply yr_run; rfl; intro w' hw'; go_simp; (try with_reducible rfl)
          simp only [Act.put, List.setIfInBounds_toArray, List.set_cons_zero, List.set_cons_succ]
          apply wpT_next 2 (some 26) (by kernel_rfl)
          · simp only [List.getElem?_toArray, List.getElem?_cons_succ, List.getElem?_cons_zero]; exact rfl
          · rfl
          · kernel_rfl
          · kernel_rfl
          · kernel_rfl
          · exact fun _ _ _ _ h => h
          apply Exists.intro
          apply And.intro
          · apply yr_run; rfl; intro w' hw'; go_simp; (try with_reducible rfl)
          simp only [Act.put, List.setIfInBounds_toArray, List.set_cons_zero, List.set_cons_succ]
          apply wpT_next 3 (some 27) (by kernel_rfl)
          · simp only [List.getElem?_toArray, List.getElem?_cons_succ, List.getElem?_cons_zero]; exact rfl
          · rfl
          · kernel_rfl
          · kernel_rfl
          · kernel_rfl
          · exact fun _ _ _ _ h => h
          apply Exists.intro
          apply And.intro
          · apply yr_run; rfl; intro w' hw'; go_simp; (try with_reducible rfl)
          simp only [Act.put, List.setIfInBounds_toArray, List.set_cons_zero, List.set_cons_succ]
          apply wpT_next 4 (some 28) (by kernel_rfl)
          · simp only [List.getElem?_toArray, List.getElem?_cons_succ, List.getElem?_cons_zero]; exact rfl
          · rfl
          · kernel_rfl
          · kernel_rfl
          · kernel_rfl
          · exact fun _ _ _ _ h => h
          apply Exists.intro
          apply And.intro
          · apply yr_run; rfl; intro w' hw'; go_simp; (try with_reducible rfl)
          simp only [Act.put, List.setIfInBounds_toArray, List.set_cons_zero, List.set_cons_succ]
          apply wpT_next 5 (some 29) (by kernel_rfl)
          · simp only [List.getElem?_toArray, List.getElem?_cons_succ, List.getElem?_cons_zero]; exact rfl
          · rfl
          · kernel_rfl
          · kernel_rfl
          · kernel_rfl
          · exact fun _ _ _ _ h => h
          apply Exists.intro
          apply And.intro
          · apply yr_run; rfl; intro w' hw'; go_simp; (try with_reducible rfl)
          simp only [Act.put, List.setIfInBounds_toArray, List.set_cons_zero, List.set_cons_succ]
          apply wpT_next 6 (some 30) (by kernel_rfl)
          · simp only [List.getElem?_toArray, List.getElem?_cons_succ, List.getElem?_cons_zero]; exact rfl
          · rfl
          · kernel_rfl
          · kernel_rfl
          · kernel_rfl
          · exact fun _ _ _ _ h => h
          apply Exists.intro
          apply And.intro
          · apply yr_run; rfl; intro w' hw'; go_simp; (try with_reducible rfl)
          simp only [Act.put, List.setIfInBounds_toArray, List.set_cons_zero, List.set_cons_succ]
          apply wpT_next 7 (some 31) (by kernel_rfl)
          · simp only [List.getElem?_toArray, List.getElem?_cons_succ, List.getElem?_cons_zero]; exact rfl
          · rfl
          · kernel_rfl
          · kernel_rfl
          · kernel_rfl
          · exact fun _ _ _ _ h => h
          apply Exists.intro
          apply And.intro
          · apply yr_run; rfl; intro w' hw'; go_simp; (try with_reducible rfl)
          simp only [Act.put, List.setIfInBounds_toArray, List.set_cons_zero, List.set_cons_succ]
          apply wpT_next 8 (some 32) (by kernel_rfl)
          · simp only [List.getElem?_toArray, List.getElem?_cons_succ, List.getElem?_cons_zero]; exact rfl
          · rfl
          · kernel_rfl
          · kernel_rfl
          · kernel_rfl
          · exact fun _ _ _ _ h => h
          apply Exists.intro
          apply And.intro
          · apply yr_run; rfl; intro w' hw'; go_simp; (try with_reducible rfl)
          simp only [Act.put, List.setIfInBounds_toArray, List.set_cons_zero, List.set_cons_succ]
          apply wpT_next 9 (some 33) (by kernel_rfl)
          · simp only [List.getElem?_toArray, List.getElem?_cons_succ, List.getElem?_cons_zero]; exact rfl
          · rfl
          · kernel_rfl
          · kernel_rfl
          · kernel_rfl
          · exact fun _ _ _ _ h => h
          apply Exists.intro
          apply And.intro
          · apply yr_run; rfl; intro w' hw'; go_simp; (try with_reducible rfl)
          simp only [Act.put, List.setIfInBounds_toArray, List.set_cons_zero, List.set_cons_succ]
          apply wpT_next 10 (some 34) (by kernel_rfl)
          · simp only [List.getElem?_toArray, List.getElem?_cons_succ, List.getElem?_cons_zero]; exact rfl
          · rfl
          · kernel_rfl
          · kernel_rfl
          · kernel_rfl
          · exact fun _ _ _ _ h => h
          apply Exists.intro
          apply And.intro
          · apply yr_run; rfl; intro w' hw'; go_simp; (try with_reducible rfl)
          simp only [Act.put, List.setIfInBounds_toArray, List.set_cons_zero, List.set_cons_succ]
          apply wpT_next 11 (some 35) (by kernel_rfl)
          · simp only [List.getElem?_toArray, List.getElem?_cons_succ, List.getElem?_cons_zero]; exact rfl
          · rfl
          · kernel_rfl
          · kernel_rfl
          · kernel_rfl
          · exact fun _ _ _ _ h => h
          apply Exists.intro
          apply And.intro
          · apply yr_run; rfl; intro w' hw'; go_simp; (try with_reducible rfl)
          simp only [Act.put, List.setIfInBounds_toArray, List.set_cons_zero, List.set_cons_succ]
          apply wpT_last 12
          · simp only [List.getElem?_toArray, List.getElem?_cons_succ, List.getElem?_cons_zero]; exact rfl
          · rfl
          · kernel_rfl
          · rfl
          · decide
          intro w' hw'
          have hcnt : i * 1000000 + j < maxLen := by unfold maxLen; omega
          obtain ⟨S, hS⟩ := HMc.out
          obtain ⟨w3, hrun, hm3, hg3⟩ := (hS.dr.bl hw').put (x := (x1, x2, x3)) Try.underlying84 hcnt Hwx.out (dV (z1, z2, z3))
          refine ⟨w3, exec_mapPut (by rfl) (by rfl) (by rfl) (by rfl) hrun, ?_⟩
          rw [opV_put] at hm3
          have HMs : RowKit.Hid (∃ S, MapD w3 bm (i * 1000000 + (j + 1)) (opV (nxR rL (j + 1) f)) S) := Lib.hid ⟨_, by rw [Hnx.out]; exact hm3.mono (by omega)⟩
          have HXs := Lib.hid ((HXc.out.dr.bl hw').grown hg3 (fun e => HNb.out (Option.some.inj e)))
          have HBs := Lib.hid (bel_grown (bel_bl (bel_dr HBc.out) hw') hg3 Hbl.out)
          clear hw' hrun hm3 hg3 hS hcnt HMc HXc HBc
          try simp only [Act.put, List.setIfInBounds_toArray, List.set_cons_zero, List.set_cons_succ]
          refine wpT_done (by kernel_rfl) ?_ _
          intro W8 hw8
          have HB8 := Lib.hid (bel_bl HBs.out hw8)
          have HX8 := Lib.hid (HXs.out.bl hw8)
          have HM8 : RowKit.Hid (∃ S, MapD W8 bm (i * 1000000 + (j + 1)) (opV (nxR rL (j + 1) f)) S) := Lib.hid (by obtain ⟨S, hS⟩ := HMs.out; exact ⟨S, hS.bl hw8⟩)
          clear hw8 HBs HXs HMs
          go_wp2
          go_roundw
          case rel => exact ⟨j + 1, by omega, by go_num, HB8, HM8, HX8⟩
          case measure => simp [intOf] <;> omega
        · obtain rfl : rn = j := by omega
          have HM2 : RowKit.Hid (∃ S, MapD wi bm ((i + 1) * 1000000) (opV (nxR rL rn f)) S) := Lib.hid (by obtain ⟨S, hS⟩ := HM.out; exact ⟨S, hS.mono (by omega)⟩)
          have HF2 : RowKit.Hid (sg = nxV (Vs.drop (i + 1)) (nxR rL rn f)) := Lib.hid (by rw [← Hlr.out]; exact HF1.out)
          clear HM HF1
          go_wp2
          go_roundw
          case rel => exact ⟨i + 1, _, by omega, by go_num, HB, HM2, HF2⟩
          case measure => simp [intOf] <;> omega
    · obtain rfl : n = i := by omega
      have hF := HF.out
      rw [List.drop_eq_nil_of_le (by have := Hlv.out; omega)] at hF
      replace hF : sg = f := hF
      subst hF
      go_wp2
      go_ret
      obtain ⟨S, hS⟩ := HM.out
      exact ⟨bm, _, S, rfl, hS, by omega, Hbl.out, HB.out⟩

end Go.Proofs.Ytpindjknngcccaa
