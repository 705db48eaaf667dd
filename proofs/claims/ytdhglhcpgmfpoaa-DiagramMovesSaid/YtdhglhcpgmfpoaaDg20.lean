/- The document's rings. -/
import Derived.Test.YtdhglhcpgmfpoaaDg19
namespace Go.Proofs.Ytdhglhcpgmfpoaa
open Go.RowKit
set_option linter.unusedSimpArgs false
set_option linter.unusedVariables false


def sideOk (d : D) : Bool := decide (0 ≤ d.2.2) && decide (d.2.2 ≤ 1)
def dartOk (Es : List EC) (d : D) : Bool := (fndE Es (d.1, d.2.1)).2 && sideOk d
def vertOk (Es : List EC) (v : VC) : Bool := turnOk v && v.2.1.2.2.2.all (dartOk Es)
def edgeAt (Vs : List VC) (e : EC) : Nat → Bool
  | 0 => decide (timesV Vs (e.1.1, e.1.2, 0) = 1) && decide (timesV Vs (e.1.1, e.1.2, 1) = 1)
  | 1 => decide (timesV Vs (e.1.1, e.1.2, 1) = 1)
  | _ => true
def ringsF (Vs : List VC) (Es : List EC) : Bool := Vs.all (vertOk Es) && Es.all (fun e => edgeAt Vs e 0)
theorem edgeAt_next (Vs : List VC) (e : EC) (q : Nat) (h : q < 2) : edgeAt Vs e q = (decide (timesV Vs (e.1.1, e.1.2, (q : Int)) = 1) && edgeAt Vs e (q + 1)) := by
  obtain rfl | rfl : q = 0 ∨ q = 1 := by omega
  · rfl
  · simp [edgeAt]
theorem bel_kept {w wo W : World} {B : Nat} (h : Below w.heap.size w wo) (hB : w.heap.size ≤ B) (hk : Kept (From_ B) wo W) : Below w.heap.size w W :=
  ⟨hk.os.trans h.os, hk.tape.trans h.tape, hk.output.trans h.output, Nat.le_trans h.size hk.size, fun i hi => (hk.block i (Nat.lt_of_lt_of_le hi h.size) (fun e => by unfold From_ at e; omega)).trans (h.block i hi)⟩
set_option maxRecDepth 100000 in
set_option maxHeartbeats 4000000 in
theorem rrings_any (A : Option Addr) (n c : Nat) (Vs : List VC) (B : Option Addr) (m k : Nat) (Es : List EC) (w : World) (h : DgIn w A n c Vs B m k Es) (hn : n ≤ 1000000) (hm : m ≤ 1000000) (hr : ∀ y ∈ Vs, y.2.1.2.1 ≤ 1000000) :
    Calls Try.prog 47 #[.agg #[.slice A n c, .slice B m k]] w fun e w' => e = .returned (.bool (ringsF Vs Es)) ∧ Below w.heap.size w w' := by
  have H := Lib.hid h.v
  have HE := Lib.hid h.e
  have HRg := Lib.hid h.r
  have Hhr := Lib.hid hr
  have Hl := Lib.hid (h.v.rlen vC_len (by decide))
  have Hle := Lib.hid (h.e.rlen eC_len (by decide))
  have HFe := Lib.hid (fun x1 x2 W (hb : Below w.heap.size w W) => rfindE A n c Vs B m k Es x1 x2 W (h.e.bl hb) hm)
  have HTi := Lib.hid (fun x1 x2 x3 W (hb : Below w.heap.size w W) => rtimes_any A n c Vs B m k Es x1 x2 x3 W (h.below hb) hn hr)
  obtain ⟨b, gb⟩ : ∃ z, ringsF Vs Es = z := ⟨_, rfl⟩
  rw [gb]
  have HG0 : RowKit.Hid (((Vs.drop 0).all (vertOk Es) && Es.all (fun e => edgeAt Vs e 0)) = b) := Lib.hid gb
  clear h hr gb
  go_enter Try.func47, Try.ntmps47
  go_wp2
  have hx0 : Whole (w.alloc (.cells #[.slice A n c, .slice B m k] 25)) (w.heap.size) 25 [.slice A n c, .slice B m k] := (Whole.new_ w 25 [.slice A n c, .slice B m k])
  have hbl : Below w.heap.size w (w.alloc (.cells #[.slice A n c, .slice B m k] 25)) := (below1 w (.cells #[.slice A n c, .slice B m k] 25))
  have hsz : w.heap.size + 1 ≤ ((w.alloc (.cells #[.slice A n c, .slice B m k] 25))).heap.size := by simp
  obtain ⟨W0, gW0⟩ : ∃ z, (w.alloc (.cells #[.slice A n c, .slice B m k] 25)) = z := ⟨_, rfl⟩
  rw [gW0] at hx0 hbl hsz
  obtain ⟨b0, gb0⟩ : ∃ z, w.heap.size = z := ⟨_, rfl⟩
  rw [gb0] at hx0
  have HX0 := Lib.hid hx0
  have HB0 := Lib.hid hbl
  have HS0 := Lib.hid hsz
  have Gb0 := Lib.hid gb0
  have Lb0 : RowKit.Hid (w.heap.size ≤ b0) := Lib.hid (by omega)
  rw [gW0, gb0]
  clear gW0 hbl hsz hx0 gb0
  go_loopw [3] (fun si wr => ∃ j : Nat, j ≤ n ∧ si = .int .i64 j ∧ RowKit.Hid (Below w.heap.size w wr) ∧ RowKit.Hid (Whole wr b0 25 [.slice A n c, .slice B m k]) ∧ RowKit.Hid (((Vs.drop j).all (vertOk Es) && Es.all (fun e => edgeAt Vs e 0)) = b)) (fun si _ => n - (intOf si).toNat)
  case atStart => exact ⟨0, by omega, rfl, HB0, HX0, HG0⟩
  case round =>
    clear HB0 HX0 HG0
    obtain ⟨j, hj, rfl, HB, HX0, HG⟩ := hrel
    obtain ⟨wo, gwo⟩ : ∃ z, wr = z := ⟨_, rfl⟩
    rw [gwo] at HB HX0 ⊢
    clear gwo
    have cb := HX0.out.cell (i := 0) rfl
    by_cases hjn : j < n
    · obtain ⟨x, hx⟩ : ∃ x, Vs[j]? = some x := ⟨_, List.getElem?_eq_getElem (by have := Hl.out; omega)⟩
      have hdr : Vs.drop j = x :: Vs.drop (j + 1) := by
        rw [List.drop_eq_getElem_cons (List.getElem?_eq_some_iff.1 hx).1, (List.getElem?_eq_some_iff.1 hx).2]
      have hg2 := HG.out
      rw [hdr] at hg2
      obtain ⟨bR, gbR⟩ : ∃ z, ((Vs.drop (j + 1)).all (vertOk Es) && Es.all (fun e => edgeAt Vs e 0)) = z := ⟨_, rfl⟩
      have hg3 : (vertOk Es x && bR) = b := by
        rw [← hg2, ← gbR, List.all_cons, Bool.and_assoc]
      have HbR := Lib.hid gbR
      have hrg := HRg.out x (List.mem_of_getElem? hx)
      have hrn := Hhr.out x (List.mem_of_getElem? hx)
      obtain ⟨bb, off, rfl, hbB, hpl⟩ := H.out.place vC_len (by decide) (by omega)
      have q1 := hpl j _ hx 2 _ rfl
      simp only [Addr.add_lit, Nat.add_zero] at q1
      obtain ⟨⟨i1, i2⟩, ⟨rA, rn, rc, rL⟩, lb, at_⟩ := x
      have l2 : wo.cell? ⟨bb, off + j * 5 + 2, none⟩ = some (.slice rA rn rc) := (HB.out.cell (p := ⟨bb, off + j * 5 + 2, none⟩) hbB).trans q1
      have hR : RdS w w.heap.size 3 rA rn rc (dartsV rL) := hrg.2
      replace hrn : rn ≤ 1000000 := hrn
      replace hg3 : ((decide (rL = turnD rL) && rL.all (dartOk Es)) && bR) = b := hg3
      have HG3 := Lib.hid hg3
      have hrl := hR.dlen
      have HT := Lib.hid (fun W (hb : Below w.heap.size w W) => rfturn_any rA rn rc rL W (hR.bl hb) hrn)
      have HD := Lib.hid (fun W (hb : Below w.heap.size w W) A2 c2 (h2 : RdS W W.heap.size 3 A2 (turnD rL).length c2 (dartsV (turnD rL))) => rdarts_any rA A2 rn (turnD rL).length rc c2 rL (turnD rL) W (hR.bl hb) h2 (by omega))
      have HR := Lib.hid (dartsV_rows rL ▸ hR)
      have Hrl := Lib.hid hrl
      obtain ⟨bt, gbt⟩ : ∃ z, decide (rL = turnD rL) = z := ⟨_, rfl⟩
      rw [gbt] at HG3 HD
      obtain ⟨tn, gtn⟩ : ∃ z, (turnD rL).length = z := ⟨_, rfl⟩
      have HT2 : RowKit.Hid (∀ W, Below w.heap.size w W → Calls Try.prog 59 #[.slice rA rn rc] W fun e w' => ∃ A2 c2, e = .returned (.slice A2 tn c2) ∧ RdS w' w'.heap.size 3 A2 tn c2 (dartsV (turnD rL)) ∧ Below W.heap.size W w') := Lib.hid (by rw [← gtn]; exact HT.out)
      rw [gtn] at HD
      clear hx hdr hg2 hg3 hbB hpl hrg hR hrl HG q1 HT gbt gbR gtn
      go_wp2_with fail
      refine (HT2.out _ HB.out).mono ?_
      rintro e W2 ⟨A2, c2, rfl, hr2, hb⟩
      have HB2 := Lib.hid (bel_bl HB.out hb)
      have HX02 := Lib.hid (HX0.out.bl hb)
      have HR2 := Lib.hid hr2
      clear hb hr2 HB HX0 HT2 cb l2
      go_wp2_with fail
      refine (HD.out _ HB2.out _ _ HR2.out).mono ?_
      rintro e W3 ⟨rfl, hb⟩
      have HB3 := Lib.hid (bel_bl HB2.out hb)
      have HX03 := Lib.hid (HX02.out.bl hb)
      clear hb HB2 HX02 HD HR2
      cases bt with
      | false =>
        have hb0 : b = false := by rw [← HG3.out]; simp
        subst hb0
        clear HG3
        go_wp2
        go_ret
        exact ⟨rfl, HB3.out⟩
      | true =>
        have HI0 : RowKit.Hid (((rL.drop 0).all (dartOk Es) && bR) = b) := Lib.hid (by
          have h1 := HG3.out
          rw [Bool.true_and] at h1
          exact h1)
        clear HG3
        go_wp2
        go_loopw [6] (fun si wr => ∃ q : Nat, q ≤ rn ∧ si = .int .i64 q ∧ RowKit.Hid (Below w.heap.size w wr) ∧ RowKit.Hid (Whole wr b0 25 [.slice (some ⟨bb, off, none⟩) n c, .slice B m k]) ∧ RowKit.Hid (((rL.drop q).all (dartOk Es) && bR) = b)) (fun si _ => rn - (intOf si).toNat)
        case atStart => exact ⟨0, by omega, rfl, HB3, HX03, HI0⟩
        case round =>
          clear HB3 HX03 HI0
          obtain ⟨q, hq, rfl, HZ, HY0, HI⟩ := hrel
          obtain ⟨wi, gwi⟩ : ∃ z, wr = z := ⟨_, rfl⟩
          rw [gwi] at HZ HY0 ⊢
          clear gwi
          by_cases hqn : q < rn
          · obtain ⟨d, hd⟩ : ∃ d, rL[q]? = some d := ⟨_, List.getElem?_eq_getElem (by have := Hrl.out; omega)⟩
            have hdr : rL.drop q = d :: rL.drop (q + 1) := by
              rw [List.drop_eq_getElem_cons (List.getElem?_eq_some_iff.1 hd).1, (List.getElem?_eq_some_iff.1 hd).2]
            have hi := HI.out
            rw [hdr, List.all_cons, Bool.and_assoc] at hi
            have HI2 := Lib.hid hi
            obtain ⟨rb, ro, rfl, hrB, hrpl⟩ := HR.out.place dC_len (by decide) (by omega)
            have p0 := hrpl q _ hd 0 _ rfl
            have p1 := hrpl q _ hd 1 _ rfl
            have p2 := hrpl q _ hd 2 _ rfl
            simp only [Addr.add_lit, Nat.add_zero] at p0 p1 p2
            have e0 := (HZ.out.cell (p := ⟨rb, ro + q * 3, none⟩) hrB).trans p0
            have e1 := (HZ.out.cell (p := ⟨rb, ro + q * 3 + 1, none⟩) hrB).trans p1
            obtain ⟨d1, d2, d3⟩ := d
            have P2 : RowKit.Hid (∀ W, Below w.heap.size w W → W.cell? ⟨rb, ro + q * 3 + 2, none⟩ = some (.int .i64 d3)) := Lib.hid (fun W hb => (hb.cell (p := ⟨rb, ro + q * 3 + 2, none⟩) hrB).trans p2)
            obtain ⟨⟨ed, ok⟩, ged⟩ : ∃ z, fndE Es (d1, d2) = z := ⟨_, rfl⟩
            obtain ⟨B2, gB2⟩ : ∃ z, wi.heap.size = z := ⟨_, rfl⟩
            have HBw := Lib.hid gB2
            have HEd : RowKit.Hid (∀ w', Kept (From_ B2) wi.drew w' → Calls Try.prog 21 #[.agg #[.slice (some ⟨bb, off, none⟩) n c, .slice B m k], .agg #[.int .i64 d1, .int .i64 d2]] w' fun e w'' => e = .returned (.tuple #[.agg (eC ed).toArray, .bool ok]) ∧ Below w'.heap.size w' w'') := Lib.hid (fun w' hk => by
              have := HFe.out d1 d2 w' (bel_kept (bel_dr HZ.out) (by rw [← gB2]; exact HZ.out.size) hk)
              rw [ged] at this
              exact this)
            have HI3 : RowKit.Hid (((ok && sideOk (d1, d2, d3)) && ((rL.drop (q + 1)).all (dartOk Es) && bR)) = b) := Lib.hid (by
              have h1 := HI2.out
              rw [dartOk] at h1
              simp only [ged] at h1
              exact h1)
            clear hd hdr hi HI2 HI hrpl p0 p1 p2 ged
            go_upto_region 11 with fail
            have ldb : ∀ w', Kept (From_ B2) wi.drew w' → w'.cell? ⟨b0, 0, none⟩ = some (.slice (some ⟨bb, off, none⟩) n c) := fun w' h => h.from_cell (Nat.lt_of_lt_of_eq HY0.out.lt HBw.out) (HY0.out.dr.cell (i := 0) rfl)
            have ldc : ∀ w', Kept (From_ B2) wi.drew w' → w'.cell? ⟨b0, 1, none⟩ = some (.slice B m k) := fun w' h => h.from_cell (Nat.lt_of_lt_of_eq HY0.out.lt HBw.out) (HY0.out.dr.cell (i := 1) rfl)
            have ld0 : ∀ w', Kept (From_ B2) wi.drew w' → w'.cell? ⟨rb, ro + q * 3, none⟩ = some (.int .i64 d1) := fun w' h => h.from_cell (Nat.lt_of_lt_of_eq (Nat.lt_of_lt_of_le hrB HZ.out.size) HBw.out) (e0)
            have ld1 : ∀ w', Kept (From_ B2) wi.drew w' → w'.cell? ⟨rb, ro + q * 3 + 1, none⟩ = some (.int .i64 d2) := fun w' h => h.from_cell (Nat.lt_of_lt_of_eq (Nat.lt_of_lt_of_le hrB HZ.out.size) HBw.out) (e1)
            clear e0 e1
            refine wp_region_reg (From_ B2) (by kernel_rfl) ?_
            apply wpR_next 0 (some 37)
            · simp only [List.getElem?_toArray, List.getElem?_cons_succ, List.getElem?_cons_zero]; exact rfl
            · rfl
            · kernel_rfl
            · kernel_rfl
            · kernel_rfl
            · exact fun _ _ _ _ h => h
            apply Exists.intro
            apply And.intro
            · apply yr_run; rfl; intro w' hw'; go_simp; (try with_reducible rfl)
            simp only [Act.put, List.setIfInBounds_toArray, List.set_cons_zero, List.set_cons_succ]
            apply wpR_next 1 (some 38)
            · simp only [List.getElem?_toArray, List.getElem?_cons_succ, List.getElem?_cons_zero]; exact rfl
            · rfl
            · kernel_rfl
            · kernel_rfl
            · kernel_rfl
            · exact fun _ _ _ _ h => h
            apply Exists.intro
            apply And.intro
            · apply yr_run; rfl; intro w' hw'; go_simp; (try with_reducible rfl)
            simp only [Act.put, List.setIfInBounds_toArray, List.set_cons_zero, List.set_cons_succ]
            apply wpR_next 2 (some 39)
            · simp only [List.getElem?_toArray, List.getElem?_cons_succ, List.getElem?_cons_zero]; exact rfl
            · rfl
            · kernel_rfl
            · kernel_rfl
            · kernel_rfl
            · exact fun _ _ _ _ h => h
            apply Exists.intro
            apply And.intro
            · apply yr_run; rfl; intro w' hw'; go_simp; (try with_reducible rfl)
            simp only [Act.put, List.setIfInBounds_toArray, List.set_cons_zero, List.set_cons_succ]
            apply wpR_next 3 (some 40)
            · simp only [List.getElem?_toArray, List.getElem?_cons_succ, List.getElem?_cons_zero]; exact rfl
            · rfl
            · kernel_rfl
            · kernel_rfl
            · kernel_rfl
            · exact fun _ _ _ _ h => h
            apply Exists.intro
            apply And.intro
            · apply yr_run; rfl; intro w' hw'; go_simp; (try with_reducible rfl)
            simp only [Act.put, List.setIfInBounds_toArray, List.set_cons_zero, List.set_cons_succ]
            apply wpR_next 4 (some 41)
            · simp only [List.getElem?_toArray, List.getElem?_cons_succ, List.getElem?_cons_zero]; exact rfl
            · rfl
            · kernel_rfl
            · kernel_rfl
            · kernel_rfl
            · exact fun _ _ _ _ h => h
            apply Exists.intro
            apply And.intro
            · apply yr_run; rfl; intro w' hw'; go_simp; (try with_reducible rfl)
            simp only [Act.put, List.setIfInBounds_toArray, List.set_cons_zero, List.set_cons_succ]
            apply wpR_next 5 (some 42)
            · simp only [List.getElem?_toArray, List.getElem?_cons_succ, List.getElem?_cons_zero]; exact rfl
            · rfl
            · kernel_rfl
            · kernel_rfl
            · kernel_rfl
            · exact fun _ _ _ _ h => h
            apply Exists.intro
            apply And.intro
            · apply yr_run; rfl; intro w' hw'; go_simp; (try with_reducible rfl)
            simp only [Act.put, List.setIfInBounds_toArray, List.set_cons_zero, List.set_cons_succ]
            apply wpR_next 6 (some 43)
            · simp only [List.getElem?_toArray, List.getElem?_cons_succ, List.getElem?_cons_zero]; exact rfl
            · rfl
            · kernel_rfl
            · kernel_rfl
            · kernel_rfl
            · exact fun _ _ _ _ h => h
            apply Exists.intro
            apply And.intro
            · apply yr_call; rfl; rotate_left; intro w' hw'; exact HEd.out w' hw'; intro w'; go_simp
            simp only [Act.put, List.setIfInBounds_toArray, List.set_cons_zero, List.set_cons_succ]
            apply wpR_next 7 (some 36)
            · simp only [List.getElem?_toArray, List.getElem?_cons_succ, List.getElem?_cons_zero]; exact rfl
            · rfl
            · kernel_rfl
            · kernel_rfl
            · kernel_rfl
            · exact fun _ _ _ _ h => h
            apply Exists.intro
            apply And.intro
            · apply yr_run; rfl; intro w' hw'; go_simp; (try with_reducible rfl)
            simp only [Act.put, List.setIfInBounds_toArray, List.set_cons_zero, List.set_cons_succ]
            apply wpR_next 8 (some 44)
            · simp only [List.getElem?_toArray, List.getElem?_cons_succ, List.getElem?_cons_zero]; exact rfl
            · rfl
            · kernel_rfl
            · kernel_rfl
            · kernel_rfl
            · exact fun _ _ _ _ h => h
            apply Exists.intro
            apply And.intro
            · apply yr_run; rfl; intro w' hw'; go_simp; (try with_reducible rfl)
            simp only [Act.put, List.setIfInBounds_toArray, List.set_cons_zero, List.set_cons_succ]
            apply wpR_next 9 (some 45)
            · simp only [List.getElem?_toArray, List.getElem?_cons_succ, List.getElem?_cons_zero]; exact rfl
            · rfl
            · kernel_rfl
            · kernel_rfl
            · kernel_rfl
            · exact fun _ _ _ _ h => h
            apply Exists.intro
            apply And.intro
            · apply yr_run; rfl; intro w' hw'; go_simp; (try with_reducible rfl)
            simp only [Act.put, List.setIfInBounds_toArray, List.set_cons_zero, List.set_cons_succ]
            apply wpR_run 10 (some 7)
            · simp only [List.getElem?_toArray, List.getElem?_cons_succ, List.getElem?_cons_zero]; exact rfl
            · rfl
            · kernel_rfl
            · rfl
            intro w' hw'
            refine ⟨.pointer (some ⟨w'.heap.size, 0, none⟩), w'.alloc (.cells #[.int .i64 0, .int .i64 0, .string { data := #[] }, .int .i64 0] 43), ?_, Kept.of_below (below1 _ _), ?_⟩
            · go_simp
            have HK1 : RowKit.Hid (Kept (From_ B2) wi.drew (w'.alloc (.cells #[.int .i64 0, .int .i64 0, .string { data := #[] }, .int .i64 0] 43))) := Lib.hid ((Kept.of_ext hw').trans (Kept.of_below (below1 _ _)))
            have HW1 : RowKit.Hid (Whole (w'.alloc (.cells #[.int .i64 0, .int .i64 0, .string { data := #[] }, .int .i64 0] 43)) w'.heap.size 43 [.int .i64 0, .int .i64 0, .string { data := #[] }, .int .i64 0]) := Lib.hid (Whole.new_ _ _ [.int .i64 0, .int .i64 0, .string { data := #[] }, .int .i64 0])
            have HL1 : RowKit.Hid (B2 ≤ w'.heap.size) := Lib.hid (by have := hw'.size; have h2 : wi.drew.heap.size = wi.heap.size := rfl; have := HBw.out; omega)
            obtain ⟨W5, gW5⟩ : ∃ z, w'.alloc (.cells #[.int .i64 0, .int .i64 0, .string { data := #[] }, .int .i64 0] 43) = z := ⟨_, rfl⟩
            obtain ⟨g5, gg5⟩ : ∃ z, w'.heap.size = z := ⟨_, rfl⟩
            rw [gW5] at HK1 HW1 ⊢
            rw [gg5] at HW1 HL1 ⊢
            clear hw' gW5 gg5
            simp only [Act.put, List.setIfInBounds_toArray, List.set_cons_zero, List.set_cons_succ]
            apply wpR_store 11
            · simp only [List.getElem?_toArray, List.getElem?_cons_succ, List.getElem?_cons_zero]; exact rfl
            · rfl
            · kernel_rfl
            · rfl
            intro w' hw'
            refine ⟨w'.setRow g5 (eC ed).toArray, store_row_run 43 (.tmp 7) (.tmp 44) rfl g5 rfl (eC ed) rfl 43 [.int .i64 0, .int .i64 0, .string { data := #[] }, .int .i64 0] (HW1.out.bl hw') (by kernel_rfl) rfl (by simp [eC, Value.oneCell']), kept_row (show B2 ≤ g5 from HL1.out) _, ?_⟩
            have HK2 : RowKit.Hid (Kept (From_ B2) wi.drew (w'.setRow g5 (eC ed).toArray)) := Lib.hid ((HK1.out.trans (Kept.of_ext hw')).trans (kept_row (show B2 ≤ g5 from HL1.out) _))
            obtain ⟨W6, gW6⟩ : ∃ z, w'.setRow g5 (eC ed).toArray = z := ⟨_, rfl⟩
            rw [gW6] at HK2 ⊢
            clear hw' gW6 HK1 HW1
            try simp only [Act.put, List.setIfInBounds_toArray, List.set_cons_zero, List.set_cons_succ]
            apply wpR_next 12 (some 8)
            · simp only [List.getElem?_toArray, List.getElem?_cons_succ, List.getElem?_cons_zero]; exact rfl
            · rfl
            · kernel_rfl
            · kernel_rfl
            · kernel_rfl
            · exact fun _ _ _ _ h => h
            apply Exists.intro
            apply And.intro
            · apply yr_run; rfl; intro w' hw'; go_simp; (try with_reducible rfl)
            simp only [Act.put, List.setIfInBounds_toArray, List.set_cons_zero, List.set_cons_succ]
            refine wpR_done (by kernel_rfl) ?_ _
            intro W7 hw7
            have hk7 := HK2.out.trans (Kept.of_ext hw7)
            have HB7 := Lib.hid (bel_kept (bel_dr HZ.out) (by rw [← HBw.out]; exact HZ.out.size) hk7)
            have HX07 := Lib.hid (hk7.whole HY0.out.dr (fun e => by have := HY0.out.lt; have := HBw.out; unfold From_ at e; omega))
            have c2 := P2.out _ HB7.out
            clear hw7 hk7 HK2 HL1 HZ HY0 ldb ldc ld0 ld1 HEd P2
            by_cases hs0 : 0 ≤ d3
            · by_cases hs1 : d3 ≤ 1
              · have hso : sideOk (d1, d2, d3) = true := by simp [sideOk, hs0, hs1]
                cases ok with
                | false =>
                  have hb0 : b = false := by rw [← HI3.out]; rfl
                  subst hb0
                  clear HI3
                  go_wp2
                  go_ret
                  exact ⟨rfl, HB7.out⟩
                | true =>
                  have HI4 : RowKit.Hid (((rL.drop (q + 1)).all (dartOk Es) && bR) = b) := Lib.hid (by
                    have h1 := HI3.out
                    rw [hso, Bool.and_self, Bool.true_and] at h1
                    exact h1)
                  clear HI3
                  go_wp2
                  go_roundw
                  case rel => exact ⟨q + 1, by omega, by go_num, HB7, HX07, HI4⟩
                  case measure => simp [intOf]; omega
              · have hso : sideOk (d1, d2, d3) = false := by simp [sideOk, hs1]
                have hb0 : b = false := by rw [← HI3.out, hso]; simp
                subst hb0
                clear HI3
                have hs1' : 1 < d3 := by omega
                cases ok with
                | false =>
                  go_wp2
                  go_ret
                  exact ⟨rfl, HB7.out⟩
                | true =>
                  go_wp2
                  go_ret
                  exact ⟨rfl, HB7.out⟩
            · have hso : sideOk (d1, d2, d3) = false := by simp [sideOk, hs0]
              have hb0 : b = false := by rw [← HI3.out, hso]; simp
              subst hb0
              clear HI3
              have hs0' : d3 < 0 := by omega
              cases ok with
              | false =>
                go_wp2
                go_ret
                exact ⟨rfl, HB7.out⟩
              | true =>
                go_wp2
                go_ret
                exact ⟨rfl, HB7.out⟩
          · obtain rfl : rn = q := by omega
            have HG4 : RowKit.Hid (((Vs.drop (j + 1)).all (vertOk Es) && Es.all (fun e => edgeAt Vs e 0)) = b) := Lib.hid (by
              have h1 := HI.out
              rw [List.drop_eq_nil_of_le (by have := Hrl.out; omega)] at h1
              rw [HbR.out, ← h1]
              rfl)
            clear HI
            go_wp2
            go_roundw
            case rel => exact ⟨j + 1, by omega, by go_num, HZ, HY0, HG4⟩
            case measure => simp [intOf]; omega
    · obtain rfl : n = j := by omega
      have HE0 : RowKit.Hid (((Es.drop 0).all (fun e => edgeAt Vs e 0)) = b) := Lib.hid (by
        have h1 := HG.out
        rw [List.drop_eq_nil_of_le (by have := Hl.out; omega)] at h1
        exact h1)
      clear HG
      go_wp2
      clear cb
      go_loopw [9] (fun si wr => ∃ q : Nat, q ≤ m ∧ si = .int .i64 q ∧ RowKit.Hid (Below w.heap.size w wr) ∧ RowKit.Hid (Whole wr b0 25 [.slice A n c, .slice B m k]) ∧ RowKit.Hid (((Es.drop q).all (fun e => edgeAt Vs e 0)) = b)) (fun si _ => m - (intOf si).toNat)
      case atStart => exact ⟨0, by omega, rfl, HB, HX0, HE0⟩
      case round =>
        clear HB HX0 HE0
        obtain ⟨q, hq, rfl, HB, HX0, HG⟩ := hrel
        obtain ⟨wo, gwo⟩ : ∃ z, wr = z := ⟨_, rfl⟩
        rw [gwo] at HB HX0 ⊢
        clear gwo
        have cb := HX0.out.cell (i := 1) rfl
        by_cases hqm : q < m
        · obtain ⟨x, hx⟩ : ∃ x, Es[q]? = some x := ⟨_, List.getElem?_eq_getElem (by have := Hle.out; omega)⟩
          have hdr : Es.drop q = x :: Es.drop (q + 1) := by
            rw [List.drop_eq_getElem_cons (List.getElem?_eq_some_iff.1 hx).1, (List.getElem?_eq_some_iff.1 hx).2]
          have hg2 := HG.out
          rw [hdr, List.all_cons] at hg2
          obtain ⟨bR, gbR⟩ : ∃ z, (Es.drop (q + 1)).all (fun e => edgeAt Vs e 0) = z := ⟨_, rfl⟩
          rw [gbR] at hg2
          have HbR := Lib.hid gbR
          have HI0 := Lib.hid hg2
          obtain ⟨bb, off, rfl, hbB, hpl⟩ := HE.out.place eC_len (by decide) (by omega)
          have q0 := hpl q _ hx 0 _ rfl
          have q1 := hpl q _ hx 1 _ rfl
          simp only [Addr.add_lit, Nat.add_zero] at q0 q1
          have Q0 := Lib.hid (And.intro q0 q1)
          have HbB := Lib.hid hbB
          have HNx := Lib.hid (fun t ht => edgeAt_next Vs x t ht)
          clear hx hdr hg2 gbR hbB hpl q0 q1 HG
          go_wp2
          clear cb
          go_loopw [10] (fun si wr => ∃ t : Nat, t ≤ 2 ∧ si = .int .i64 t ∧ RowKit.Hid (Below w.heap.size w wr) ∧ RowKit.Hid (Whole wr b0 25 [.slice A n c, .slice (some ⟨bb, off, none⟩) m k]) ∧ RowKit.Hid ((edgeAt Vs x t && bR) = b)) (fun si _ => 2 - (intOf si).toNat)
          case atStart => exact ⟨0, by omega, rfl, HB, HX0, HI0⟩
          case round =>
            clear HB HX0 HI0
            obtain ⟨t, ht, rfl, HZ, HY0, HI⟩ := hrel
            obtain ⟨wi, gwi⟩ : ∃ z, wr = z := ⟨_, rfl⟩
            rw [gwi] at HZ HY0 ⊢
            clear gwi
            by_cases ht2 : t < 2
            · have hi := HI.out
              rw [HNx.out t ht2] at hi
              obtain ⟨⟨i1, i2⟩, lb, at_⟩ := x
              have htI : (t : Int) < 2 := by omega
              have e0 := (HZ.out.cell (p := ⟨bb, off + q * 4, none⟩) HbB.out).trans Q0.out.1
              have e1 := (HZ.out.cell (p := ⟨bb, off + q * 4 + 1, none⟩) HbB.out).trans Q0.out.2
              dsimp only at hi e0 e1
              have HT : RowKit.Hid (∀ w', Kept Nil_ wi.drew w' → Calls Try.prog 70 #[.agg #[.slice A n c, .slice (some ⟨bb, off, none⟩) m k], .agg #[.int .i64 i1, .int .i64 i2, .int .i64 (t : Int)]] w' fun e w'' => e = .returned (.int .i64 (timesV Vs (i1, i2, (t : Int)) : Nat)) ∧ Below w'.heap.size w' w'') :=
                Lib.hid (fun w' hk => HTi.out i1 i2 t w' (bel_bl (bel_dr HZ.out) (hk.below (Nat.le_refl _) (fun _ _ h => h))))
              obtain ⟨tv, gtv⟩ : ∃ z, timesV Vs (i1, i2, (t : Int)) = z := ⟨_, rfl⟩
              rw [gtv] at HT hi
              have HI2 := Lib.hid hi
              clear hi gtv HI
              go_upto_region 20 with fail
              have ldb : ∀ w', Kept Nil_ wi.drew w' → w'.cell? ⟨b0, 0, none⟩ = some (.slice A n c) := fun w' h => h.nil_cell (HY0.out.dr.cell (i := 0) rfl)
              have ldc : ∀ w', Kept Nil_ wi.drew w' → w'.cell? ⟨b0, 1, none⟩ = some (.slice (some ⟨bb, off, none⟩) m k) := fun w' h => h.nil_cell (HY0.out.dr.cell (i := 1) rfl)
              have ld0 : ∀ w', Kept Nil_ wi.drew w' → w'.cell? ⟨bb, off + q * 4, none⟩ = some (.int .i64 i1) := fun w' h => h.nil_cell (e0)
              have ld1 : ∀ w', Kept Nil_ wi.drew w' → w'.cell? ⟨bb, off + q * 4 + 1, none⟩ = some (.int .i64 i2) := fun w' h => h.nil_cell (e1)
              clear e0 e1
              refine wp_region_reg (Nil_) (by kernel_rfl) ?_
              apply wpR_next 0 (some 75)
              · simp only [List.getElem?_toArray, List.getElem?_cons_succ, List.getElem?_cons_zero]; exact rfl
              · rfl
              · kernel_rfl
              · kernel_rfl
              · kernel_rfl
              · exact fun _ _ _ _ h => h
              apply Exists.intro
              apply And.intro
              · apply yr_run; rfl; intro w' hw'; go_simp; (try with_reducible rfl)
              simp only [Act.put, List.setIfInBounds_toArray, List.set_cons_zero, List.set_cons_succ]
              apply wpR_next 1 (some 76)
              · simp only [List.getElem?_toArray, List.getElem?_cons_succ, List.getElem?_cons_zero]; exact rfl
              · rfl
              · kernel_rfl
              · kernel_rfl
              · kernel_rfl
              · exact fun _ _ _ _ h => h
              apply Exists.intro
              apply And.intro
              · apply yr_run; rfl; intro w' hw'; go_simp; (try with_reducible rfl)
              simp only [Act.put, List.setIfInBounds_toArray, List.set_cons_zero, List.set_cons_succ]
              apply wpR_next 2 (some 77)
              · simp only [List.getElem?_toArray, List.getElem?_cons_succ, List.getElem?_cons_zero]; exact rfl
              · rfl
              · kernel_rfl
              · kernel_rfl
              · kernel_rfl
              · exact fun _ _ _ _ h => h
              apply Exists.intro
              apply And.intro
              · apply yr_run; rfl; intro w' hw'; go_simp; (try with_reducible rfl)
              simp only [Act.put, List.setIfInBounds_toArray, List.set_cons_zero, List.set_cons_succ]
              apply wpR_next 3 (some 78)
              · simp only [List.getElem?_toArray, List.getElem?_cons_succ, List.getElem?_cons_zero]; exact rfl
              · rfl
              · kernel_rfl
              · kernel_rfl
              · kernel_rfl
              · exact fun _ _ _ _ h => h
              apply Exists.intro
              apply And.intro
              · apply yr_run; rfl; intro w' hw'; go_simp; (try with_reducible rfl)
              simp only [Act.put, List.setIfInBounds_toArray, List.set_cons_zero, List.set_cons_succ]
              apply wpR_next 4 (some 79)
              · simp only [List.getElem?_toArray, List.getElem?_cons_succ, List.getElem?_cons_zero]; exact rfl
              · rfl
              · kernel_rfl
              · kernel_rfl
              · kernel_rfl
              · exact fun _ _ _ _ h => h
              apply Exists.intro
              apply And.intro
              · apply yr_run; rfl; intro w' hw'; go_simp; (try with_reducible rfl)
              simp only [Act.put, List.setIfInBounds_toArray, List.set_cons_zero, List.set_cons_succ]
              apply wpR_next 5 (some 80)
              · simp only [List.getElem?_toArray, List.getElem?_cons_succ, List.getElem?_cons_zero]; exact rfl
              · rfl
              · kernel_rfl
              · kernel_rfl
              · kernel_rfl
              · exact fun _ _ _ _ h => h
              apply Exists.intro
              apply And.intro
              · apply yr_run; rfl; intro w' hw'; go_simp; (try with_reducible rfl)
              simp only [Act.put, List.setIfInBounds_toArray, List.set_cons_zero, List.set_cons_succ]
              apply wpR_next 6 (some 81)
              · simp only [List.getElem?_toArray, List.getElem?_cons_succ, List.getElem?_cons_zero]; exact rfl
              · rfl
              · kernel_rfl
              · kernel_rfl
              · kernel_rfl
              · exact fun _ _ _ _ h => h
              apply Exists.intro
              apply And.intro
              · apply yr_run; rfl; intro w' hw'; go_simp; (try with_reducible rfl)
              simp only [Act.put, List.setIfInBounds_toArray, List.set_cons_zero, List.set_cons_succ]
              apply wpR_next 7 (some 82)
              · simp only [List.getElem?_toArray, List.getElem?_cons_succ, List.getElem?_cons_zero]; exact rfl
              · rfl
              · kernel_rfl
              · kernel_rfl
              · kernel_rfl
              · exact fun _ _ _ _ h => h
              apply Exists.intro
              apply And.intro
              · apply yr_run; rfl; intro w' hw'; go_simp; (try with_reducible rfl)
              simp only [Act.put, List.setIfInBounds_toArray, List.set_cons_zero, List.set_cons_succ]
              apply wpR_next 8 (some 83)
              · simp only [List.getElem?_toArray, List.getElem?_cons_succ, List.getElem?_cons_zero]; exact rfl
              · rfl
              · kernel_rfl
              · kernel_rfl
              · kernel_rfl
              · exact fun _ _ _ _ h => h
              apply Exists.intro
              apply And.intro
              · apply yr_run; rfl; intro w' hw'; go_simp; (try with_reducible rfl)
              simp only [Act.put, List.setIfInBounds_toArray, List.set_cons_zero, List.set_cons_succ]
              apply wpR_next 9 (some 84)
              · simp only [List.getElem?_toArray, List.getElem?_cons_succ, List.getElem?_cons_zero]; exact rfl
              · rfl
              · kernel_rfl
              · kernel_rfl
              · kernel_rfl
              · exact fun _ _ _ _ h => h
              apply Exists.intro
              apply And.intro
              · apply yr_call; rfl; rotate_left; intro w' hw'; exact HT.out w' hw'; intro w'; go_simp
              simp only [Act.put, List.setIfInBounds_toArray, List.set_cons_zero, List.set_cons_succ]
              apply wpR_next 10 (some 85)
              · simp only [List.getElem?_toArray, List.getElem?_cons_succ, List.getElem?_cons_zero]; exact rfl
              · rfl
              · kernel_rfl
              · kernel_rfl
              · kernel_rfl
              · exact fun _ _ _ _ h => h
              apply Exists.intro
              apply And.intro
              · apply yr_run; rfl; intro w' hw'; go_simp; (try with_reducible rfl)
              simp only [Act.put, List.setIfInBounds_toArray, List.set_cons_zero, List.set_cons_succ]
              refine wpR_done (by kernel_rfl) ?_ _
              intro W7 hw7
              have HB7 := Lib.hid (bel_bl (bel_dr HZ.out) hw7)
              have HX07 := Lib.hid (HY0.out.dr.bl hw7)
              clear hw7 HZ HY0 ldb ldc ld0 ld1 HT
              by_cases htv : tv = 1
              · have htI2 : ((tv : Int) != 1) = false := by subst htv; rfl
                have HI4 : RowKit.Hid ((edgeAt Vs ((i1, i2), lb, at_) (t + 1) && bR) = b) := Lib.hid (by
                  have h1 := HI2.out
                  rw [decide_eq_true htv, Bool.true_and] at h1
                  exact h1)
                clear HI2 htv
                go_wp2
                go_roundw
                case rel => exact ⟨t + 1, by omega, by go_num, HB7, HX07, HI4⟩
                case measure => simp [intOf]; omega
              · have htI2 : ((tv : Int) != 1) = true := by simp; omega
                have hb0 : b = false := by rw [← HI2.out, decide_eq_false htv]; rfl
                subst hb0
                clear HI2 htv
                go_wp2
                go_ret
                exact ⟨rfl, HB7.out⟩
            · obtain rfl : t = 2 := by omega
              have HG4 : RowKit.Hid ((Es.drop (q + 1)).all (fun e => edgeAt Vs e 0) = b) := Lib.hid (by rw [HbR.out, ← HI.out]; rfl)
              clear HI
              rw [show ((2 : Nat) : Int) = 2 from rfl]
              go_wp2
              go_roundw
              case rel => exact ⟨q + 1, by omega, by go_num, HZ, HY0, HG4⟩
              case measure => simp [intOf]; omega
        · obtain rfl : m = q := by omega
          have hb0 : b = true := by
            rw [← HG.out, List.drop_eq_nil_of_le (by have := Hle.out; omega)]
            rfl
          subst hb0
          clear HG
          go_wp2
          go_ret
          exact ⟨rfl, HB.out⟩
end Go.Proofs.Ytdhglhcpgmfpoaa
