/- Several texts in one. -/
import Derived.Test.YtahbfdhjgnlmdaaGreatZBG
import Derived.Test.YtahbfdhjgnlmdaaGreatZBH

/- The document's Darts. -/
namespace Go.Proofs.YtahbfdhjgnlmdaaGreat
open Go.RowKit
set_option linter.unusedSimpArgs false
set_option linter.unusedVariables false

set_option maxRecDepth 100000 in
set_option maxHeartbeats 4000000 in
theorem rdarts5_any (A : Option Addr) (n c : Nat) (Vs : List VC) (B : Option Addr) (m k : Nat) (Es : List EC) (w : World) (h : DgIn w A n c Vs B m k Es) (hm : m ≤ 1000000) :
    Calls Tryz.prog 81 #[.agg #[.slice A n c, .slice B m k]] w fun e w' => ∃ A' c', e = .returned (.slice A' (2 * m) c') ∧ w'.ownsRow w.heap.size 49 3 (.slice A' (2 * m) c') (2 * m) (dartsV (dsE Es)) ∧ Below w.heap.size w w' := by
  have HE := Lib.hid h.e
  have Hle := Lib.hid (h.e.rlen eC_len (by decide))
  obtain ⟨i0, hi0, hz0, hz1, hz2⟩ := info_partsD info_dartD
  clear h
  go_enter Tryz.func81, Tryz.ntmps81
  go_upto_region 1 with fail
  have hx0 : Whole (w.alloc (.cells #[.slice A n c, .slice B m k] 25)) (w.heap.size) 25 [.slice A n c, .slice B m k] := (Whole.new_ w 25 [.slice A n c, .slice B m k])
  have hbl : Below w.heap.size w (w.alloc (.cells #[.slice A n c, .slice B m k] 25)) := (below1 w (.cells #[.slice A n c, .slice B m k] 25))
  have hsz : w.heap.size + 1 ≤ ((w.alloc (.cells #[.slice A n c, .slice B m k] 25))).heap.size := by simp
  obtain ⟨W0, gW0⟩ : ∃ z, (w.alloc (.cells #[.slice A n c, .slice B m k] 25)) = z := ⟨_, rfl⟩
  rw [gW0] at hx0 hbl hsz
  obtain ⟨b0, gb0⟩ : ∃ z, w.heap.size = z := ⟨_, rfl⟩
  rw [gb0] at hx0
  have HX0 := Lib.hid hx0
  have HB0 := Lib.hid hbl
  have HS0 := Lib.hid hsz
  have Gb0 := Lib.hid gb0
  have Lb0 : RowKit.Hid (w.heap.size ≤ b0) := Lib.hid (by omega)
  rw [gW0, gb0]
  clear gW0 hbl hsz hx0 gb0
  have HX1 := Lib.hid (HX0.out.al (.cells #[] 49))
  have HO1 : RowKit.Hid (Ow w (b0 + 1) 49 3 (.slice (some ⟨W0.heap.size, 0, none⟩) 0 0) 0 [] (W0.alloc (.cells #[] 49))) := Lib.hid (Ow.new_ (cs := #[]) HB0.out (by have := Lb0.out; omega) (by have := HX0.out.lt; omega) (by unfold maxLen; omega) rfl)
  go_wp2
  clear HX0 HB0
  obtain ⟨W1, gW1⟩ : ∃ z, W0.alloc (.cells #[] 49) = z := ⟨_, rfl⟩
  obtain ⟨g1, gg1⟩ : ∃ z, W0.heap.size = z := ⟨_, rfl⟩
  rw [gW1] at HX1 HO1 ⊢
  rw [gg1] at HO1 ⊢
  clear gW1 gg1
  go_loopw [3, 4] (fun sl si wr => ∃ (i : Nat) (A2 : Option Addr) (c2 : Nat), i ≤ m ∧ si = .int .i64 i ∧ sl = .slice A2 (2 * i) c2 ∧ RowKit.Hid (Whole wr b0 25 [.slice A n c, .slice B m k]) ∧ RowKit.Hid (Ow w (b0 + 1) 49 3 (.slice A2 (2 * i) c2) (2 * i) (dartsV (dsE (Es.take i))) wr)) (fun _ si _ => m - (intOf si).toNat)
  case atStart => exact ⟨0, _, _, by omega, rfl, rfl, HX1, HO1⟩
  case round =>
    clear HX1 HO1
    obtain ⟨i, A2, c2, hi, rfl, rfl, HX, HO⟩ := hrel
    obtain ⟨wo, gwo⟩ : ∃ z, wr = z := ⟨_, rfl⟩
    rw [gwo] at HX HO ⊢
    clear gwo
    have c1 := HX.out.cell (i := 1) rfl
    by_cases him : i < m
    · obtain ⟨x, hx⟩ : ∃ x, Es[i]? = some x := ⟨_, List.getElem?_eq_getElem (by have := Hle.out; omega)⟩
      have hdn := dsE_next Es i x hx
      obtain ⟨bb, off, rfl, hbB, hpl⟩ := HE.out.place eC_len (by decide) (by omega)
      have HB := Lib.hid HO.out.below
      have hbw := HB.out
      have q0 := hpl i _ hx 0 _ rfl
      have q1 := hpl i _ hx 1 _ rfl
      have q2 := hpl i _ hx 2 _ rfl
      have q3 := hpl i _ hx 3 _ rfl
      simp only [Addr.add_lit, Nat.add_zero] at q0 q1 q2 q3
      have l0 := (hbw.cell (p := ⟨bb, off + i * 4, none⟩) hbB).trans q0
      have l1 := (hbw.cell (p := ⟨bb, off + i * 4 + 1, none⟩) hbB).trans q1
      have l2 := (hbw.cell (p := ⟨bb, off + i * 4 + 2, none⟩) hbB).trans q2
      have l3 := (hbw.cell (p := ⟨bb, off + i * 4 + 3, none⟩) hbB).trans q3
      clear hbw q0 q1 q2 q3
      obtain ⟨⟨i1, i2⟩, lb, at_⟩ := x
      replace hdn : dsE (Es.take (i + 1)) = dsE (Es.take i) ++ [(i1, i2, 0), (i1, i2, 1)] := hdn
      have q0 : wo.cell? ⟨bb, off + i * 4, none⟩ = some (.int .i64 i1) := l0
      have q1 : wo.cell? ⟨bb, off + i * 4 + 1, none⟩ = some (.int .i64 i2) := l1
      have Hbb : RowKit.Hid (bb < b0 + 1) := Lib.hid (by have := Lb0.out; omega)
      have HOd := Lib.hid (HO.out.up ((Below.refl _ _).drew))
      have HXd := Lib.hid HX.out.dr
      have HDn := Lib.hid hdn
      clear l0 l1 l2 l3 hx hbB hpl hdn
      go_upto_region 5 with fail
      have ld1 : ∀ w', Kept (From_ (b0 + 1)) wo.drew w' → w'.cell? ⟨b0, 1, none⟩ = some (.slice (some ⟨bb, off, none⟩) m k) := fun w' h => h.from_cell (Nat.lt_succ_self _) (HXd.out.cell (i := 1) rfl)
      have ld2 : ∀ w', Kept (From_ (b0 + 1)) wo.drew w' → w'.cell? ⟨bb, off + i * 4, none⟩ = some (.int .i64 i1) := fun w' h => h.from_cell Hbb.out (show wo.drew.cell? _ = _ from q0)
      have ld3 : ∀ w', Kept (From_ (b0 + 1)) wo.drew w' → w'.cell? ⟨bb, off + i * 4 + 1, none⟩ = some (.int .i64 i2) := fun w' h => h.from_cell Hbb.out (show wo.drew.cell? _ = _ from q1)
      clear q0 q1 c1 HX HO HB
      refine wp_region_reg (From_ (b0 + 1)) (by kernel_rfl) ?_
      apply wpR_next 0 (some 13)
      · simp only [List.getElem?_toArray, List.getElem?_cons_succ, List.getElem?_cons_zero]; exact rfl
      · rfl
      · kernel_rfl
      · kernel_rfl
      · kernel_rfl
      · exact fun _ _ _ _ h => h
      apply Exists.intro
      apply And.intro
      · apply yr_run; rfl; intro w' hw'; go_simp; (try with_reducible rfl)
      simp only [Act.put, List.setIfInBounds_toArray, List.set_cons_zero, List.set_cons_succ]
      apply wpR_next 1 (some 14)
      · simp only [List.getElem?_toArray, List.getElem?_cons_succ, List.getElem?_cons_zero]; exact rfl
      · rfl
      · kernel_rfl
      · kernel_rfl
      · kernel_rfl
      · exact fun _ _ _ _ h => h
      apply Exists.intro
      apply And.intro
      · apply yr_run; rfl; intro w' hw'; go_simp; (try with_reducible rfl)
      simp only [Act.put, List.setIfInBounds_toArray, List.set_cons_zero, List.set_cons_succ]
      apply wpR_next 2 (some 15)
      · simp only [List.getElem?_toArray, List.getElem?_cons_succ, List.getElem?_cons_zero]; exact rfl
      · rfl
      · kernel_rfl
      · kernel_rfl
      · kernel_rfl
      · exact fun _ _ _ _ h => h
      apply Exists.intro
      apply And.intro
      · apply yr_run; rfl; intro w' hw'; go_simp; (try with_reducible rfl)
      simp only [Act.put, List.setIfInBounds_toArray, List.set_cons_zero, List.set_cons_succ]
      apply wpR_next 3 (some 16)
      · simp only [List.getElem?_toArray, List.getElem?_cons_succ, List.getElem?_cons_zero]; exact rfl
      · rfl
      · kernel_rfl
      · kernel_rfl
      · kernel_rfl
      · exact fun _ _ _ _ h => h
      apply Exists.intro
      apply And.intro
      · apply yr_run; rfl; intro w' hw'; go_simp; (try with_reducible rfl)
      simp only [Act.put, List.setIfInBounds_toArray, List.set_cons_zero, List.set_cons_succ]
      apply wpR_next 4 (some 17)
      · simp only [List.getElem?_toArray, List.getElem?_cons_succ, List.getElem?_cons_zero]; exact rfl
      · rfl
      · kernel_rfl
      · kernel_rfl
      · kernel_rfl
      · exact fun _ _ _ _ h => h
      apply Exists.intro
      apply And.intro
      · apply yr_run; rfl; intro w' hw'; go_simp; (try with_reducible rfl)
      simp only [Act.put, List.setIfInBounds_toArray, List.set_cons_zero, List.set_cons_succ]
      apply wpR_next 5 (some 18)
      · simp only [List.getElem?_toArray, List.getElem?_cons_succ, List.getElem?_cons_zero]; exact rfl
      · rfl
      · kernel_rfl
      · kernel_rfl
      · kernel_rfl
      · exact fun _ _ _ _ h => h
      apply Exists.intro
      apply And.intro
      · apply yr_run; rfl; intro w' hw'; go_simp; (try with_reducible rfl)
      simp only [Act.put, List.setIfInBounds_toArray, List.set_cons_zero, List.set_cons_succ]
      apply wpR_next 6 (some 19)
      · simp only [List.getElem?_toArray, List.getElem?_cons_succ, List.getElem?_cons_zero]; exact rfl
      · rfl
      · kernel_rfl
      · kernel_rfl
      · kernel_rfl
      · exact fun _ _ _ _ h => h
      apply Exists.intro
      apply And.intro
      · apply yr_run; rfl; intro w' hw'; go_simp; (try with_reducible rfl)
      simp only [Act.put, List.setIfInBounds_toArray, List.set_cons_zero, List.set_cons_succ]
      apply wpR_next 7 (some 20)
      · simp only [List.getElem?_toArray, List.getElem?_cons_succ, List.getElem?_cons_zero]; exact rfl
      · rfl
      · kernel_rfl
      · kernel_rfl
      · kernel_rfl
      · exact fun _ _ _ _ h => h
      apply Exists.intro
      apply And.intro
      · apply yr_run; rfl; intro w' hw'; go_simp; (try with_reducible rfl)
      simp only [Act.put, List.setIfInBounds_toArray, List.set_cons_zero, List.set_cons_succ]
      apply wpR_next 8 (some 21)
      · simp only [List.getElem?_toArray, List.getElem?_cons_succ, List.getElem?_cons_zero]; exact rfl
      · rfl
      · kernel_rfl
      · kernel_rfl
      · kernel_rfl
      · exact fun _ _ _ _ h => h
      apply Exists.intro
      apply And.intro
      · apply yr_run; rfl; intro w' hw'; go_simp; (try with_reducible rfl)
      simp only [Act.put, List.setIfInBounds_toArray, List.set_cons_zero, List.set_cons_succ]
      apply wpR_next 9 (some 22)
      · simp only [List.getElem?_toArray, List.getElem?_cons_succ, List.getElem?_cons_zero]; exact rfl
      · rfl
      · kernel_rfl
      · kernel_rfl
      · kernel_rfl
      · exact fun _ _ _ _ h => h
      apply Exists.intro
      apply And.intro
      · apply yr_run; rfl; intro w' hw'; go_simp; (try with_reducible rfl)
      simp only [Act.put, List.setIfInBounds_toArray, List.set_cons_zero, List.set_cons_succ]
      apply wpR_next 10 (some 23)
      · simp only [List.getElem?_toArray, List.getElem?_cons_succ, List.getElem?_cons_zero]; exact rfl
      · rfl
      · kernel_rfl
      · kernel_rfl
      · kernel_rfl
      · exact fun _ _ _ _ h => h
      apply Exists.intro
      apply And.intro
      · apply yr_run; rfl; intro w' hw'; go_simp; (try with_reducible rfl)
      simp only [Act.put, List.setIfInBounds_toArray, List.set_cons_zero, List.set_cons_succ]
      apply wpR_next 11 (some 24)
      · simp only [List.getElem?_toArray, List.getElem?_cons_succ, List.getElem?_cons_zero]; exact rfl
      · rfl
      · kernel_rfl
      · kernel_rfl
      · kernel_rfl
      · exact fun _ _ _ _ h => h
      apply Exists.intro
      apply And.intro
      · apply yr_run; rfl; intro w' hw'; go_simp; (try with_reducible rfl)
      simp only [Act.put, List.setIfInBounds_toArray, List.set_cons_zero, List.set_cons_succ]
      apply wpR_next 12 (some 25)
      · simp only [List.getElem?_toArray, List.getElem?_cons_succ, List.getElem?_cons_zero]; exact rfl
      · rfl
      · kernel_rfl
      · kernel_rfl
      · kernel_rfl
      · exact fun _ _ _ _ h => h
      apply Exists.intro
      apply And.intro
      · apply yr_run; rfl; intro w' hw'; go_simp; (try with_reducible rfl)
      simp only [Act.put, List.setIfInBounds_toArray, List.set_cons_zero, List.set_cons_succ]
      apply wpR_next 13 (some 26)
      · simp only [List.getElem?_toArray, List.getElem?_cons_succ, List.getElem?_cons_zero]; exact rfl
      · rfl
      · kernel_rfl
      · kernel_rfl
      · kernel_rfl
      · exact fun _ _ _ _ h => h
      apply Exists.intro
      apply And.intro
      · apply yr_run; rfl; intro w' hw'; go_simp; (try with_reducible rfl)
      simp only [Act.put, List.setIfInBounds_toArray, List.set_cons_zero, List.set_cons_succ]
      apply wpR_next 14 (some 27)
      · simp only [List.getElem?_toArray, List.getElem?_cons_succ, List.getElem?_cons_zero]; exact rfl
      · rfl
      · kernel_rfl
      · kernel_rfl
      · kernel_rfl
      · exact fun _ _ _ _ h => h
      apply Exists.intro
      apply And.intro
      · apply yr_run; rfl; intro w' hw'; go_simp; (try with_reducible rfl)
      simp only [Act.put, List.setIfInBounds_toArray, List.set_cons_zero, List.set_cons_succ]
      apply wpR_run 15 (some 28)
      · simp only [List.getElem?_toArray, List.getElem?_cons_succ, List.getElem?_cons_zero]; exact rfl
      · rfl
      · kernel_rfl
      · rfl
      intro w' hw'
      refine ⟨.slice (some ⟨w'.heap.size, 0, none⟩) 2 2, w'.alloc (.cells #[.int .i64 i1, .int .i64 i2, .int .i64 0, .int .i64 i1, .int .i64 i2, .int .i64 1] 49), exec_buildSlice 45 49 2 #[(0, .tmp 20), (1, .tmp 27)] (by rfl) Tryz.underlying45 _ (by kernel_rfl), Kept.of_below (below1 _ _), ?_⟩
      have HL : RowKit.Hid (RdS (w'.alloc (.cells #[.int .i64 i1, .int .i64 i2, .int .i64 0, .int .i64 i1, .int .i64 i2, .int .i64 1] 49)) (w'.alloc (.cells #[.int .i64 i1, .int .i64 i2, .int .i64 0, .int .i64 i1, .int .i64 i2, .int .i64 1] 49)).heap.size 3 (some ⟨w'.heap.size, 0, none⟩) 2 2 (dartsV [(i1, i2, 0), (i1, i2, 1)])) := Lib.hid (RdS.of_whole (Whole.new_ _ _ _) rfl)
      have HOe := Lib.hid (HOd.out.up (bel_al hw' (.cells #[.int .i64 i1, .int .i64 i2, .int .i64 0, .int .i64 i1, .int .i64 i2, .int .i64 1] 49)))
      have HXe := Lib.hid ((HXd.out.bl hw').al (.cells #[.int .i64 i1, .int .i64 i2, .int .i64 0, .int .i64 i1, .int .i64 i2, .int .i64 1] 49))
      obtain ⟨W3, gW3⟩ : ∃ z, w'.alloc (.cells #[.int .i64 i1, .int .i64 i2, .int .i64 0, .int .i64 i1, .int .i64 i2, .int .i64 1] 49) = z := ⟨_, rfl⟩
      obtain ⟨g3, gg3⟩ : ∃ z, w'.heap.size = z := ⟨_, rfl⟩
      rw [gW3] at HL HOe HXe ⊢
      rw [gg3] at HL ⊢
      clear hw' gW3 gg3 HOd HXd
      simp only [Act.put, List.setIfInBounds_toArray, List.set_cons_zero, List.set_cons_succ]
      apply wpR_run 16 (some 29)
      · simp only [List.getElem?_toArray, List.getElem?_cons_succ, List.getElem?_cons_zero]; exact rfl
      · rfl
      · kernel_rfl
      · rfl
      intro w' hw'
      obtain ⟨v8, w'', hrun, how8, hb8⟩ := Ow.app (P := Tryz.prog) 45 45 49 i0 _ 3 24 (b0 + 1) Tryz.underlying45 hi0 hz0 hz1 hz2 rfl (by decide) _ (2 * i) _ (HOe.out.up hw') _ _ 2 _ _ (HL.out.bl hw') (by simp [dartsV, Value.oneCell']) (by unfold maxLen; omega) (by omega)
      obtain ⟨A8, c8, rfl, -⟩ := how8.rds
      refine ⟨_, w'', exec_append (by rfl) (by rfl) (by rfl) hrun, Kept.of_from hb8, ?_⟩
      have HO9 : RowKit.Hid (Ow w (b0 + 1) 49 3 (.slice A8 (2 * i + 2) c8) (2 * i + 2) (dartsV (dsE (Es.take (i + 1)))) w'') := Lib.hid (by
        rw [HDn.out, dartsV_app]
        exact how8)
      have HX9 := Lib.hid ((Kept.of_from hb8).whole (HXe.out.bl hw') (by unfold From_; omega))
      obtain ⟨W4, gW4⟩ : ∃ z, w'' = z := ⟨_, rfl⟩
      rw [gW4] at HO9 HX9 ⊢
      clear hw' hrun hb8 how8 gW4 HL HOe HXe
      simp only [Act.put, List.setIfInBounds_toArray, List.set_cons_zero, List.set_cons_succ]
      apply wpR_next 17 (some 3)
      · simp only [List.getElem?_toArray, List.getElem?_cons_succ, List.getElem?_cons_zero]; exact rfl
      · rfl
      · kernel_rfl
      · kernel_rfl
      · kernel_rfl
      · exact fun _ _ _ _ h => h
      apply Exists.intro
      apply And.intro
      · apply yr_run; rfl; intro w' hw'; go_simp; (try with_reducible rfl)
      simp only [Act.put, List.setIfInBounds_toArray, List.set_cons_zero, List.set_cons_succ]
      refine wpR_done (by kernel_rfl) ?_ _
      intro W8 hw8
      have HO10 := Lib.hid (HO9.out.up hw8)
      have HX10 := Lib.hid (HX9.out.bl hw8)
      clear hw8 HO9 HX9
      go_wp2
      go_roundw
      case rel => exact ⟨i + 1, A8, c8, by omega, by go_num, by rw [show 2 * (i + 1) = 2 * i + 2 by omega], HX10, by rw [show 2 * (i + 1) = 2 * i + 2 by omega]; exact HO10⟩
      case measure => simp [intOf]; omega
    · obtain rfl : m = i := by omega
      have hO := HO.out
      rw [List.take_of_length_le (by have := Hle.out; omega)] at hO
      have HO2 := Lib.hid hO
      clear hO HO HX
      go_wp2
      go_ret
      exact ⟨A2, c2, rfl, own_base HO2.out.own (by have := Lb0.out; omega), HO2.out.below⟩
end Go.Proofs.YtahbfdhjgnlmdaaGreat

/- Next of rings, the program's and the document's. -/
namespace Go.Proofs.YtahbfdhjgnlmdaaGreat
open Go.RowKit
set_option linter.unusedSimpArgs false
set_option linter.unusedVariables false

def stpD (L : List D) (d : D) (p : Nat) : D := if d ∈ L then L.getD ((L.idxOf d + p) % L.length) (0, 0, 0) else (0, 0, 0)

def GivesD (w : World) (x : D) (ok : Bool) (e : Ending) (w' : World) : Prop :=
  e = .returned (.tuple #[.agg #[.int .i64 x.1, .int .i64 x.2.1, .int .i64 x.2.2], .bool ok]) ∧ Below w.heap.size w w'

def nextD (L : List D) (d : D) : D := stpD L d 1

theorem rfnext_any (A : Option Addr) (n c : Nat) (L : List D) (d : D) (w : World) (h : RdS w w.heap.size 3 A n c (dartsV L)) (hn : n ≤ 1000000) :
    Calls Tryz.prog 110 #[.slice A n c, .agg #[.int .i64 d.1, .int .i64 d.2.1, .int .i64 d.2.2]] w (GivesD w (nextD L d) (decide (d ∈ L))) := by
  have HI := Lib.hid (fun W h => rfindex_any A n c L d W h (by omega))
  have H := Lib.hid h
  have hl := h.dlen
  by_cases hd : d ∈ L
  · obtain ⟨e1, e2⟩ := idxD_mem hd
    rw [e1] at HI
    obtain ⟨k, gk⟩ : ∃ v, L.idxOf d = v := ⟨_, rfl⟩
    have hkn : k < n := by omega
    have hs : nextD L d = L.getD ((k + 1) % n) (0, 0, 0) := by rw [nextD, stpD, if_pos hd, gk, hl]
    rw [gk] at HI e2
    obtain ⟨b, off, rfl, hb, hc⟩ := h.darts (by omega)
    have hj : (k + 1) % n < n := Nat.mod_lt _ (by omega)
    have hmod : ((k : Int) + 1) % (n : Int) = (((k + 1) % n : Nat) : Int) := by rw [Int.natCast_emod, Int.natCast_add]; rfl
    obtain ⟨j, gj⟩ : ∃ v, (k + 1) % n = v := ⟨_, rfl⟩
    rw [gj] at hs hj hmod
    obtain ⟨c1, c2, c3⟩ := hc j (by omega)
    obtain ⟨x, gx⟩ : ∃ v, L.getD j (0, 0, 0) = v := ⟨_, rfl⟩
    rw [gx] at hs c1 c2 c3
    rw [hs, decide_eq_true hd]
    have C1 := Lib.hid c1
    have C2 := Lib.hid c2
    have C3 := Lib.hid c3
    clear hs gx gj hc hd gk e1 e2 h hl c1 c2 c3
    go_enter Tryz.func110, Tryz.ntmps110
    go_wp2_with (first
      | (go_at_call 82; refine (HI.out _ (by exact H.out.up (below2 _ _ _) (by simp <;> omega))).mono ?_; rintro e w2 ⟨rfl, hb2⟩
         have HB := Lib.hid (below_after2 hb2)
         have d1 := (HB.out.cell (p := ⟨b, off + j * 3, none⟩) hb).trans C1.out
         have d2 := (HB.out.cell (p := ⟨b, off + j * 3 + 1, none⟩) hb).trans C2.out
         have d3 := (HB.out.cell (p := ⟨b, off + j * 3 + 2, none⟩) hb).trans C3.out
         have hz := (Whole.new_ (w.alloc (.cells #[.int .i64 d.1, .int .i64 d.2.1, .int .i64 d.2.2] 49)) 49 [.int .i64 0, .int .i64 0, .int .i64 0]).below hb2
         simp only [World.size_alloc] at hz
         have z0 := hz.cell (i := 0) rfl
         have z1 := hz.cell (i := 1) rfl
         have z2 := hz.cell (i := 2) rfl
         have y0 := hz.free 0
         have y1 := hz.free 1
         have y2 := hz.free 2
         clear hb2 hz))
    exact bodyPost_ret (v := .tuple #[.agg #[.int .i64 x.1, .int .i64 x.2.1, .int .i64 x.2.2], .bool true]) (by simp [results, Tryz.results110, go_sem, z0, z1, z2]) rfl ⟨rfl, ((HB.out.setCell (by simp) _).setCell (by simp) _).setCell (by simp) _⟩
  · have hs : nextD L d = (0, 0, 0) := by rw [nextD, stpD, if_neg hd]
    rw [idxD_no hd] at HI
    rw [hs, decide_eq_false hd]
    clear hs h hd hl
    go_enter Tryz.func110, Tryz.ntmps110
    go_wp2_with (first
      | (go_at_call 82; refine (HI.out _ (by exact H.out.up (below2 _ _ _) (by simp <;> omega))).mono ?_; rintro e w2 ⟨rfl, hb2⟩
         have HB := Lib.hid (below_after2 hb2)
         have hz := (Whole.new_ (w.alloc (.cells #[.int .i64 d.1, .int .i64 d.2.1, .int .i64 d.2.2] 49)) 49 [.int .i64 0, .int .i64 0, .int .i64 0]).below hb2
         simp only [World.size_alloc] at hz
         have z0 := hz.cell (i := 0) rfl
         have z1 := hz.cell (i := 1) rfl
         have z2 := hz.cell (i := 2) rfl
         have y0 := hz.free 0
         have y1 := hz.free 1
         have y2 := hz.free 2
         clear hb2 hz))
    exact bodyPost_ret (v := .tuple #[.agg #[.int .i64 0, .int .i64 0, .int .i64 0], .bool false]) (by simp [results, Tryz.results110, go_sem, z0, z1, z2]) rfl ⟨rfl, ((HB.out.setCell (by simp) _).setCell (by simp) _).setCell (by simp) _⟩

end Go.Proofs.YtahbfdhjgnlmdaaGreat

/- Sigma and Phi, the program's and the document's. -/
namespace Go.Proofs.YtahbfdhjgnlmdaaGreat
open Go.RowKit
set_option linter.unusedSimpArgs false
set_option linter.unusedVariables false


/-- The other one, of any dart. -/
def othW (d : D) : D := (d.1, d.2.1, IntKind.i64.wrap (1 - d.2.2))
theorem othW_in {d : D} (h : 0 ≤ d.2.2 ∧ d.2.2 ≤ 1) : othW d = othD d := by
  unfold othW othD
  rw [IntWalk.i64_in (1 - d.2.2) (by omega)]
theorem othW_out {d : D} (h1 : -9223372036854775808 ≤ d.2.2 ∧ d.2.2 ≤ 9223372036854775807) (h : ¬ (d.2.2 = 0 ∨ d.2.2 = 1)) : ¬ ((othW d).2.2 = 0 ∨ (othW d).2.2 = 1) := by
  show ¬ (IntKind.i64.wrap (1 - d.2.2) = 0 ∨ IntKind.i64.wrap (1 - d.2.2) = 1)
  by_cases q : d.2.2 = -9223372036854775808
  · rw [q]; decide
  · rw [IntWalk.i64_left]
    unfold wrap64
    omega
section
variable {Vs : List VC} {Es : List EC}
theorem Formed.othW (h : Formed Vs Es) {d : D} (hb : -9223372036854775808 ≤ d.2.2 ∧ d.2.2 ≤ 9223372036854775807) : (othW d ∈ ringsOf Vs ↔ d ∈ ringsOf Vs) ∧ (d ∈ ringsOf Vs → othW d = othD d) := by
  have hs : ∀ {x : D}, x ∈ ringsOf Vs → x.2.2 = 0 ∨ x.2.2 = 1 := fun hx => by
    obtain ⟨e, _, _, q⟩ := (h.mem _).1 hx
    exact q
  by_cases q : d.2.2 = 0 ∨ d.2.2 = 1
  · have e := othW_in (d := d) (by omega)
    rw [e]
    exact ⟨h.ohs d, fun _ => rfl⟩
  · exact ⟨⟨fun hx => (othW_out hb q (hs hx)).elim, fun hx => (q (hs hx)).elim⟩, fun hx => (q (hs hx)).elim⟩
theorem at_fnd (h : Formed Vs Es) (x : D) : (x ∈ (fndV Vs (atV Vs x).1).1.2.1.2.2.2 ↔ x ∈ ringsOf Vs) ∧ nextD (fndV Vs (atV Vs x).1).1.2.1.2.2.2 x = sgF Vs x ∧ (atV Vs x).2 = decide (x ∈ ringsOf Vs) := by
  by_cases hx : x ∈ ringsOf Vs
  · obtain ⟨v, hv, hr⟩ := ring_mem.1 hx
    have e1 := h.at hv hr
    have e2 : fndV Vs v.1 = (v, true) := by
      have hn := rise_nodup h.rv
      clear h hx e1 hr
      induction Vs with
      | nil => cases hv
      | cons u r ih =>
        rw [List.map_cons, List.nodup_cons] at hn
        rcases List.mem_cons.1 hv with rfl | hv
        · exact fnd_yes _ _ _ _ _ rfl
        · have : ¬ u.1 = v.1 := fun e => hn.1 (e ▸ List.mem_map.2 ⟨v, hv, rfl⟩)
          exact (fnd_no _ _ _ _ _ this).trans (ih hv hn.2)
    rw [e1]
    show (x ∈ (fndV Vs v.1).1.2.1.2.2.2 ↔ _) ∧ nextD (fndV Vs v.1).1.2.1.2.2.2 x = _ ∧ true = _
    rw [e2, sgF_at h.once hv hr, decide_eq_true hx]
    refine ⟨⟨fun _ => hx, fun _ => hr⟩, ?_, rfl⟩
    show stpD _ _ 1 = _
    rw [stpD, if_pos hr]
    rfl
  · have e1 : atV Vs x = ((0, 0), false) := by
      unfold atV
      rw [List.find?_eq_none.2 (fun v hv q => hx (ring_mem.2 ⟨v, hv, of_decide_eq_true q⟩))]
    have e2 : fndV Vs (0, 0) = (zV, false) := by
      unfold fndV fnd
      rw [List.find?_eq_none.2 (fun v hv q => by
        have h1 := ((riseF_iff _ _).1 h.rv).1 v.1 (List.mem_map.2 ⟨v, hv, rfl⟩)
        have q1 : v.1 = (0, 0) := of_decide_eq_true q
        rw [q1] at h1
        revert h1
        decide)]
    rw [e1]
    show (x ∈ (fndV Vs (0, 0)).1.2.1.2.2.2 ↔ _) ∧ nextD (fndV Vs (0, 0)).1.2.1.2.2.2 x = _ ∧ false = _
    rw [e2, sgF, sigM_no h.once hx, decide_eq_false hx]
    exact ⟨⟨fun q => (by cases q), fun q => (hx q).elim⟩, rfl, rfl⟩
end
set_option maxRecDepth 100000 in
set_option maxHeartbeats 4000000 in
theorem rother_w (x1 x2 x3 : Int) (w : World) : Calls Tryz.prog 104 #[.agg #[.int .i64 x1, .int .i64 x2, .int .i64 x3]] w fun e w' => e = .returned (.agg #[.int .i64 (othW (x1, x2, x3)).1, .int .i64 (othW (x1, x2, x3)).2.1, .int .i64 (othW (x1, x2, x3)).2.2]) ∧ Below w.heap.size w w' := by
  go_enter Tryz.func104, Tryz.ntmps104
  go_wp2
  exact bodyPost_ret (v := .agg #[.int .i64 x1, .int .i64 x2, .int .i64 (IntKind.i64.wrap (1 - x3))]) (by simp [results, Tryz.results104, go_sem, IntWalk.i64_left]) rfl ⟨rfl, below2 _ _ _⟩
set_option maxRecDepth 100000 in
set_option maxHeartbeats 4000000 in
theorem rsigma_any (A : Option Addr) (n c : Nat) (Vs : List VC) (B : Option Addr) (m k : Nat) (Es : List EC) (x1 x2 x3 : Int) (w : World) (h : DgIn w A n c Vs B m k Es) (hf : Formed Vs Es) :
    Calls Tryz.prog 103 #[.agg #[.slice A n c, .slice B m k], .agg #[.int .i64 x1, .int .i64 x2, .int .i64 x3]] w (GivesD w (sgF Vs (x1, x2, x3)) (decide ((x1, x2, x3) ∈ ringsOf Vs))) := by
  have HDa := Lib.hid h
  have hr : ∀ x ∈ Vs, x.2.1.2.1 ≤ 1000000 := fun x hx => by have := (hf.small h).2.2 x hx; omega
  have hn : n ≤ 1000000 := by have := (hf.small h).1; omega
  obtain ⟨p1, p2, p3⟩ := at_fnd hf (x1, x2, x3)
  have HAt := Lib.hid (fun W (h : DgIn W A n c Vs B m k Es) => rat_any A n c Vs B m k Es x1 x2 x3 W h (by omega) (fun x hx => by have := hr x hx; omega))
  obtain ⟨⟨⟨a1, a2⟩, ok⟩, ga⟩ : ∃ z, atV Vs (x1, x2, x3) = z := ⟨_, rfl⟩
  rw [ga] at HAt p1 p2 p3
  have q1 := fun W (h : DgIn W A n c Vs B m k Es) => fndV_ring h hr (a1, a2)
  obtain ⟨⟨⟨⟨i1, i2⟩, ⟨rA, rn, rc, rL⟩, lb, at_⟩, okv⟩, gv⟩ : ∃ z, fndV Vs (a1, a2) = z := ⟨_, rfl⟩
  have q2 := fun W (h : DgIn W A n c Vs B m k Es) => rfindV A n c Vs B m k Es a1 a2 W (DgIn.v h) (by omega)
  rw [show fndV Vs ((a1, a2), ok).1 = _ from gv] at p1 p2
  simp only [gv] at q1
  replace p1 : (x1, x2, x3) ∈ rL ↔ (x1, x2, x3) ∈ ringsOf Vs := p1
  replace p2 : nextD rL (x1, x2, x3) = sgF Vs (x1, x2, x3) := p2
  replace p3 : ok = decide ((x1, x2, x3) ∈ ringsOf Vs) := p3
  have hrn : ∀ W, DgIn W A n c Vs B m k Es → RdS W W.heap.size 3 rA rn rc (dartsV rL) ∧ rn ≤ 1000000 := fun W h => ⟨(q1 W h).1.2, (q1 W h).2⟩
  have HRn := Lib.hid hrn
  have hNx : ∀ W A' c', RdS W W.heap.size 3 A' rn c' (dartsV rL) → Calls Tryz.prog 110 #[.slice A' rn c', .agg #[.int .i64 x1, .int .i64 x2, .int .i64 x3]] W (GivesD W (sgF Vs (x1, x2, x3)) (decide ((x1, x2, x3) ∈ ringsOf Vs))) := fun W A' c' h' => by
    have := rfnext_any A' rn c' rL (x1, x2, x3) W h' (hrn _ h).2
    rw [p2, decide_eq_decide.2 p1] at this
    exact this
  have HNx := Lib.hid hNx
  have P3 := Lib.hid p3
  have hV : ∀ W, DgIn W A n c Vs B m k Es → Calls Tryz.prog 109 #[.agg #[.slice A n c, .slice B m k], .agg #[.int .i64 a1, .int .i64 a2]] W fun e w' => ∃ A' c', e = .returned (.tuple #[.agg #[.int .i64 i1, .int .i64 i2, .slice A' rn c', .string lb, .int .i64 at_], .bool okv]) ∧ RdS w' w'.heap.size 3 A' rn c' (dartsV rL) ∧ Below W.heap.size W w' := fun W h => by
    have h1 := q2 W h
    rw [gv] at h1
    refine Calls.mono h1 ?_
    rintro e w' ⟨rfl, hb⟩
    exact ⟨rA, rc, rfl, (hrn _ (h.bl hb)).1, hb⟩
  have HV := Lib.hid hV
  have hyz : ok = false → sgF Vs (x1, x2, x3) = (0, 0, 0) := fun e => by
    have hx : (x1, x2, x3) ∉ ringsOf Vs := of_decide_eq_false (p3.symm.trans e)
    rw [sgF, sigM_no hf.once hx]
    rfl
  have HYZ0 := Lib.hid hyz
  clear hyz q1 q2 p1 p2 p3 ga gv hrn hNx hV h hf hr hn
  obtain ⟨⟨y1, y2, y3⟩, gy⟩ : ∃ z, sgF Vs (x1, x2, x3) = z := ⟨_, rfl⟩
  obtain ⟨oy, goy⟩ : ∃ z, decide ((x1, x2, x3) ∈ ringsOf Vs) = z := ⟨_, rfl⟩
  rw [gy, goy] at HNx
  rw [gy] at HYZ0
  rw [goy] at P3
  rw [gy, goy]
  clear gy goy
  go_enter Tryz.func103, Tryz.ntmps103
  have lw1 : ((((w.alloc (.cells #[.slice A n c, .slice B m k] 25)).alloc (.cells #[.int .i64 x1, .int .i64 x2, .int .i64 x3] 49)).alloc (.cells #[.int .i64 0, .int .i64 0, .int .i64 0] 49))).cell? ⟨w.heap.size, 0, none⟩ = some (.slice A n c) := (((show Whole (w.alloc (.cells #[.slice A n c, .slice B m k] 25)) (w.heap.size) (25) ([.slice A n c, .slice B m k]) from Whole.new2 (by first | rfl | simp)).al (.cells #[.int .i64 x1, .int .i64 x2, .int .i64 x3] 49)).al (.cells #[.int .i64 0, .int .i64 0, .int .i64 0] 49)).cell (i := 0) rfl
  have lw2 : ((((w.alloc (.cells #[.slice A n c, .slice B m k] 25)).alloc (.cells #[.int .i64 x1, .int .i64 x2, .int .i64 x3] 49)).alloc (.cells #[.int .i64 0, .int .i64 0, .int .i64 0] 49))).cell? ⟨w.heap.size, 1, none⟩ = some (.slice B m k) := (((show Whole (w.alloc (.cells #[.slice A n c, .slice B m k] 25)) (w.heap.size) (25) ([.slice A n c, .slice B m k]) from Whole.new2 (by first | rfl | simp)).al (.cells #[.int .i64 x1, .int .i64 x2, .int .i64 x3] 49)).al (.cells #[.int .i64 0, .int .i64 0, .int .i64 0] 49)).cell (i := 1) rfl
  have lw3 : ((((w.alloc (.cells #[.slice A n c, .slice B m k] 25)).alloc (.cells #[.int .i64 x1, .int .i64 x2, .int .i64 x3] 49)).alloc (.cells #[.int .i64 0, .int .i64 0, .int .i64 0] 49))).cell? ⟨w.heap.size + 1, 0, none⟩ = some (.int .i64 x1) := ((show Whole ((w.alloc (.cells #[.slice A n c, .slice B m k] 25)).alloc (.cells #[.int .i64 x1, .int .i64 x2, .int .i64 x3] 49)) ((w.heap.size + 1)) (49) ([.int .i64 x1, .int .i64 x2, .int .i64 x3]) from Whole.new2 (by first | rfl | simp)).al (.cells #[.int .i64 0, .int .i64 0, .int .i64 0] 49)).cell (i := 0) rfl
  have lw4 : ((((w.alloc (.cells #[.slice A n c, .slice B m k] 25)).alloc (.cells #[.int .i64 x1, .int .i64 x2, .int .i64 x3] 49)).alloc (.cells #[.int .i64 0, .int .i64 0, .int .i64 0] 49))).cell? ⟨w.heap.size + 1, 1, none⟩ = some (.int .i64 x2) := ((show Whole ((w.alloc (.cells #[.slice A n c, .slice B m k] 25)).alloc (.cells #[.int .i64 x1, .int .i64 x2, .int .i64 x3] 49)) ((w.heap.size + 1)) (49) ([.int .i64 x1, .int .i64 x2, .int .i64 x3]) from Whole.new2 (by first | rfl | simp)).al (.cells #[.int .i64 0, .int .i64 0, .int .i64 0] 49)).cell (i := 1) rfl
  have lw5 : ((((w.alloc (.cells #[.slice A n c, .slice B m k] 25)).alloc (.cells #[.int .i64 x1, .int .i64 x2, .int .i64 x3] 49)).alloc (.cells #[.int .i64 0, .int .i64 0, .int .i64 0] 49))).cell? ⟨w.heap.size + 1, 2, none⟩ = some (.int .i64 x3) := ((show Whole ((w.alloc (.cells #[.slice A n c, .slice B m k] 25)).alloc (.cells #[.int .i64 x1, .int .i64 x2, .int .i64 x3] 49)) ((w.heap.size + 1)) (49) ([.int .i64 x1, .int .i64 x2, .int .i64 x3]) from Whole.new2 (by first | rfl | simp)).al (.cells #[.int .i64 0, .int .i64 0, .int .i64 0] 49)).cell (i := 2) rfl
  go_wp2_with fail
  clear lw1 lw2 lw3 lw4 lw5
  refine (HAt.out _ (((HDa.out.al (.cells #[.slice A n c, .slice B m k] 25)).al (.cells #[.int .i64 x1, .int .i64 x2, .int .i64 x3] 49)).al (.cells #[.int .i64 0, .int .i64 0, .int .i64 0] 49))).mono ?_
  rintro e w6 ⟨rfl, hb6⟩
  have Da_7 := Lib.hid ((((HDa.out.al (.cells #[.slice A n c, .slice B m k] 25)).al (.cells #[.int .i64 x1, .int .i64 x2, .int .i64 x3] 49)).al (.cells #[.int .i64 0, .int .i64 0, .int .i64 0] 49)).bl hb6)
  have D0_7 := Lib.hid ((((show Whole (w.alloc (.cells #[.slice A n c, .slice B m k] 25)) (w.heap.size) (25) ([.slice A n c, .slice B m k]) from Whole.new2 (by first | rfl | simp)).al (.cells #[.int .i64 x1, .int .i64 x2, .int .i64 x3] 49)).al (.cells #[.int .i64 0, .int .i64 0, .int .i64 0] 49)).bl hb6)
  have X_7 := Lib.hid (((show Whole ((w.alloc (.cells #[.slice A n c, .slice B m k] 25)).alloc (.cells #[.int .i64 x1, .int .i64 x2, .int .i64 x3] 49)) ((w.heap.size + 1)) (49) ([.int .i64 x1, .int .i64 x2, .int .i64 x3]) from Whole.new2 (by first | rfl | simp)).al (.cells #[.int .i64 0, .int .i64 0, .int .i64 0] 49)).bl hb6)
  have R_7 := Lib.hid ((show Whole (((w.alloc (.cells #[.slice A n c, .slice B m k] 25)).alloc (.cells #[.int .i64 x1, .int .i64 x2, .int .i64 x3] 49)).alloc (.cells #[.int .i64 0, .int .i64 0, .int .i64 0] 49)) ((w.heap.size + 1 + 1)) (49) ([.int .i64 0, .int .i64 0, .int .i64 0]) from Whole.new2 (by first | rfl | simp)).bl hb6)
  have Bel_7 := Lib.hid (bel_bl (bel_al (bel_al (bel_al (Below.refl _ w) (.cells #[.slice A n c, .slice B m k] 25)) (.cells #[.int .i64 x1, .int .i64 x2, .int .i64 x3] 49)) (.cells #[.int .i64 0, .int .i64 0, .int .i64 0] 49)) hb6)
  clear HDa
  clear hb6
  have LO_D0_8 : RowKit.Hid (w.heap.size ≤ w.heap.size) := Lib.hid (by omega)
  have LO_X_9 : RowKit.Hid (w.heap.size ≤ (w.heap.size + 1)) := Lib.hid (by omega)
  have NE_D0_X : RowKit.Hid (w.heap.size ≠ (w.heap.size + 1)) := Lib.hid (by omega)
  have LO_R_10 : RowKit.Hid (w.heap.size ≤ (w.heap.size + 1 + 1)) := Lib.hid (by omega)
  have NE_D0_R : RowKit.Hid (w.heap.size ≠ (w.heap.size + 1 + 1)) := Lib.hid (by omega)
  have NE_X_R : RowKit.Hid ((w.heap.size + 1) ≠ (w.heap.size + 1 + 1)) := Lib.hid (by omega)
  cases ok with
  | false =>
    obtain rfl : false = oy := P3.out
    have hyz : RowKit.Hid ((y1, y2, y3) = ((0, 0, 0) : D)) := Lib.hid (HYZ0.out rfl)
    obtain ⟨hy1, hy2, hy3⟩ : y1 = 0 ∧ y2 = 0 ∧ y3 = 0 := by
      have := hyz.out
      simp only [Prod.mk.injEq] at this
      exact this
    subst hy1 hy2 hy3
    have z0 := (R_7.out.al (.cells #[.int .i64 a1, .int .i64 a2] 41)).cell (i := 0) rfl
    have z1 := (R_7.out.al (.cells #[.int .i64 a1, .int .i64 a2] 41)).cell (i := 1) rfl
    have z2 := (R_7.out.al (.cells #[.int .i64 a1, .int .i64 a2] 41)).cell (i := 2) rfl
    have f0 := (R_7.out.al (.cells #[.int .i64 a1, .int .i64 a2] 41)).free 0
    have f1 := (R_7.out.al (.cells #[.int .i64 a1, .int .i64 a2] 41)).free 1
    have f2 := (R_7.out.al (.cells #[.int .i64 a1, .int .i64 a2] 41)).free 2
    have HY := Lib.hid ((((R_7.out.al (.cells #[.int .i64 a1, .int .i64 a2] 41)).set_ 0 (.int .i64 0)).set_ 1 (.int .i64 0)).set_ 2 (.int .i64 0))
    have HBz := Lib.hid ((((bel_al Bel_7.out (.cells #[.int .i64 a1, .int .i64 a2] 41)).setCell (p := ⟨w.heap.size + 1 + 1, 0, none⟩) (show w.heap.size ≤ w.heap.size + 1 + 1 by omega) (.int .i64 0)).setCell (p := ⟨w.heap.size + 1 + 1, 1, none⟩) (show w.heap.size ≤ w.heap.size + 1 + 1 by omega) (.int .i64 0)).setCell (p := ⟨w.heap.size + 1 + 1, 2, none⟩) (show w.heap.size ≤ w.heap.size + 1 + 1 by omega) (.int .i64 0))
    go_wp2
    exact ret_whole2 rfl (w.heap.size + 1 + 1) rfl rfl HY.out Tryz.underlying49 rfl (by kernel_rfl) rfl ⟨rfl, HBz.out⟩
  | true =>
  skip
  have lw11 : ((w6.alloc (.cells #[.int .i64 a1, .int .i64 a2] 41))).cell? ⟨w.heap.size, 0, none⟩ = some (.slice A n c) := (D0_7.out.al (.cells #[.int .i64 a1, .int .i64 a2] 41)).cell (i := 0) rfl
  have lw12 : ((w6.alloc (.cells #[.int .i64 a1, .int .i64 a2] 41))).cell? ⟨w.heap.size, 1, none⟩ = some (.slice B m k) := (D0_7.out.al (.cells #[.int .i64 a1, .int .i64 a2] 41)).cell (i := 1) rfl
  have lw13 : ((w6.alloc (.cells #[.int .i64 a1, .int .i64 a2] 41))).cell? ⟨w6.heap.size, 0, none⟩ = some (.int .i64 a1) := (show Whole (w6.alloc (.cells #[.int .i64 a1, .int .i64 a2] 41)) (w6.heap.size) (41) ([.int .i64 a1, .int .i64 a2]) from Whole.new2 (by first | rfl | simp)).cell (i := 0) rfl
  have lw14 : ((w6.alloc (.cells #[.int .i64 a1, .int .i64 a2] 41))).cell? ⟨w6.heap.size, 1, none⟩ = some (.int .i64 a2) := (show Whole (w6.alloc (.cells #[.int .i64 a1, .int .i64 a2] 41)) (w6.heap.size) (41) ([.int .i64 a1, .int .i64 a2]) from Whole.new2 (by first | rfl | simp)).cell (i := 1) rfl
  go_wp2_with fail
  clear lw11 lw12 lw13 lw14
  refine (HV.out _ (Da_7.out.al (.cells #[.int .i64 a1, .int .i64 a2] 41))).mono ?_
  rintro e w15 ⟨A1, c1, rfl, hR, hb15⟩
  have Da_16 := Lib.hid ((Da_7.out.al (.cells #[.int .i64 a1, .int .i64 a2] 41)).bl hb15)
  have D0_16 := Lib.hid ((D0_7.out.al (.cells #[.int .i64 a1, .int .i64 a2] 41)).bl hb15)
  have X_16 := Lib.hid ((X_7.out.al (.cells #[.int .i64 a1, .int .i64 a2] 41)).bl hb15)
  have R_16 := Lib.hid ((R_7.out.al (.cells #[.int .i64 a1, .int .i64 a2] 41)).bl hb15)
  have I_16 := Lib.hid ((show Whole (w6.alloc (.cells #[.int .i64 a1, .int .i64 a2] 41)) (w6.heap.size) (41) ([.int .i64 a1, .int .i64 a2]) from Whole.new2 (by first | rfl | simp)).bl hb15)
  have Bel_16 := Lib.hid (bel_bl (bel_al Bel_7.out (.cells #[.int .i64 a1, .int .i64 a2] 41)) hb15)
  clear Da_7 D0_7 X_7 R_7 Bel_7
  clear hb15
  have Rg_16 := Lib.hid hR
  clear hR
  have lw17 : ((w15.alloc (.cells #[.int .i64 i1, .int .i64 i2, .slice A1 rn c1, .string lb, .int .i64 at_] 47))).cell? ⟨w.heap.size + 1, 0, none⟩ = some (.int .i64 x1) := (X_16.out.al (.cells #[.int .i64 i1, .int .i64 i2, .slice A1 rn c1, .string lb, .int .i64 at_] 47)).cell (i := 0) rfl
  have lw18 : ((w15.alloc (.cells #[.int .i64 i1, .int .i64 i2, .slice A1 rn c1, .string lb, .int .i64 at_] 47))).cell? ⟨w.heap.size + 1, 1, none⟩ = some (.int .i64 x2) := (X_16.out.al (.cells #[.int .i64 i1, .int .i64 i2, .slice A1 rn c1, .string lb, .int .i64 at_] 47)).cell (i := 1) rfl
  have lw19 : ((w15.alloc (.cells #[.int .i64 i1, .int .i64 i2, .slice A1 rn c1, .string lb, .int .i64 at_] 47))).cell? ⟨w.heap.size + 1, 2, none⟩ = some (.int .i64 x3) := (X_16.out.al (.cells #[.int .i64 i1, .int .i64 i2, .slice A1 rn c1, .string lb, .int .i64 at_] 47)).cell (i := 2) rfl
  have lw20 : ((w15.alloc (.cells #[.int .i64 i1, .int .i64 i2, .slice A1 rn c1, .string lb, .int .i64 at_] 47))).cell? ⟨w15.heap.size, 2, none⟩ = some (.slice A1 rn c1) := (show Whole (w15.alloc (.cells #[.int .i64 i1, .int .i64 i2, .slice A1 rn c1, .string lb, .int .i64 at_] 47)) (w15.heap.size) (47) ([.int .i64 i1, .int .i64 i2, .slice A1 rn c1, .string lb, .int .i64 at_]) from Whole.new2 (by first | rfl | simp)).cell (i := 2) rfl
  go_wp2_with fail
  clear lw17 lw18 lw19 lw20
  refine (HNx.out _ _ _ (Rg_16.out.al (.cells #[.int .i64 i1, .int .i64 i2, .slice A1 rn c1, .string lb, .int .i64 at_] 47))).mono ?_
  rintro e w21 ⟨rfl, hb21⟩
  have Da_22 := Lib.hid ((Da_16.out.al (.cells #[.int .i64 i1, .int .i64 i2, .slice A1 rn c1, .string lb, .int .i64 at_] 47)).bl hb21)
  have D0_22 := Lib.hid ((D0_16.out.al (.cells #[.int .i64 i1, .int .i64 i2, .slice A1 rn c1, .string lb, .int .i64 at_] 47)).bl hb21)
  have X_22 := Lib.hid ((X_16.out.al (.cells #[.int .i64 i1, .int .i64 i2, .slice A1 rn c1, .string lb, .int .i64 at_] 47)).bl hb21)
  have R_22 := Lib.hid ((R_16.out.al (.cells #[.int .i64 i1, .int .i64 i2, .slice A1 rn c1, .string lb, .int .i64 at_] 47)).bl hb21)
  have I_22 := Lib.hid ((I_16.out.al (.cells #[.int .i64 i1, .int .i64 i2, .slice A1 rn c1, .string lb, .int .i64 at_] 47)).bl hb21)
  have Rg_22 := Lib.hid ((Rg_16.out.al (.cells #[.int .i64 i1, .int .i64 i2, .slice A1 rn c1, .string lb, .int .i64 at_] 47)).bl hb21)
  have V_22 := Lib.hid ((show Whole (w15.alloc (.cells #[.int .i64 i1, .int .i64 i2, .slice A1 rn c1, .string lb, .int .i64 at_] 47)) (w15.heap.size) (47) ([.int .i64 i1, .int .i64 i2, .slice A1 rn c1, .string lb, .int .i64 at_]) from Whole.new2 (by first | rfl | simp)).bl hb21)
  have Bel_22 := Lib.hid (bel_bl (bel_al Bel_16.out (.cells #[.int .i64 i1, .int .i64 i2, .slice A1 rn c1, .string lb, .int .i64 at_] 47)) hb21)
  clear Da_16 D0_16 X_16 R_16 I_16 Rg_16 Bel_16
  clear hb21
  have z0 := R_22.out.cell (i := 0) rfl
  have z1 := R_22.out.cell (i := 1) rfl
  have z2 := R_22.out.cell (i := 2) rfl
  have f0 := R_22.out.free 0
  have f1 := R_22.out.free 1
  have f2 := R_22.out.free 2
  have HY := Lib.hid (((R_22.out.set_ 0 (.int .i64 y1)).set_ 1 (.int .i64 y2)).set_ 2 (.int .i64 y3))
  have HBz := Lib.hid (((Bel_22.out.setCell (p := ⟨w.heap.size + 1 + 1, 0, none⟩) (show w.heap.size ≤ w.heap.size + 1 + 1 by omega) (.int .i64 y1)).setCell (p := ⟨w.heap.size + 1 + 1, 1, none⟩) (show w.heap.size ≤ w.heap.size + 1 + 1 by omega) (.int .i64 y2)).setCell (p := ⟨w.heap.size + 1 + 1, 2, none⟩) (show w.heap.size ≤ w.heap.size + 1 + 1 by omega) (.int .i64 y3))
  go_wp2
  exact ret_whole2 rfl (w.heap.size + 1 + 1) rfl rfl HY.out Tryz.underlying49 rfl (by kernel_rfl) rfl ⟨rfl, HBz.out⟩
end Go.Proofs.YtahbfdhjgnlmdaaGreat

/- Phi, the program's and the document's. -/
namespace Go.Proofs.YtahbfdhjgnlmdaaGreat
open Go.RowKit
set_option linter.unusedSimpArgs false
set_option linter.unusedVariables false

set_option maxRecDepth 100000 in
set_option maxHeartbeats 4000000 in
theorem rphi_any (A : Option Addr) (n c : Nat) (Vs : List VC) (B : Option Addr) (m k : Nat) (Es : List EC) (x1 x2 x3 : Int) (w : World) (h : DgIn w A n c Vs B m k Es) (hf : Formed Vs Es) (hb : -9223372036854775808 ≤ x3 ∧ x3 ≤ 9223372036854775807) :
    Calls Tryz.prog 94 #[.agg #[.slice A n c, .slice B m k], .agg #[.int .i64 x1, .int .i64 x2, .int .i64 x3]] w (GivesD w (if (x1, x2, x3) ∈ ringsOf Vs then phF Vs (x1, x2, x3) else (0, 0, 0)) (decide ((x1, x2, x3) ∈ ringsOf Vs))) := by
  have HDa := Lib.hid h
  obtain ⟨w1_, w2_⟩ := hf.othW (d := (x1, x2, x3)) hb
  have HOt := Lib.hid (rother_w x1 x2 x3)
  have HSg := fun W (h : DgIn W A n c Vs B m k Es) => rsigma_any A n c Vs B m k Es (othW (x1, x2, x3)).1 (othW (x1, x2, x3)).2.1 (othW (x1, x2, x3)).2.2 W h hf
  have hv : sgF Vs (othW (x1, x2, x3)) = if (x1, x2, x3) ∈ ringsOf Vs then phF Vs (x1, x2, x3) else (0, 0, 0) := by
    by_cases q : (x1, x2, x3) ∈ ringsOf Vs
    · rw [if_pos q, w2_ q]
      rfl
    · rw [if_neg q, sgF, sigM_no hf.once (fun h => q (w1_.1 h))]
      rfl
  have hd : decide (othW (x1, x2, x3) ∈ ringsOf Vs) = decide ((x1, x2, x3) ∈ ringsOf Vs) := decide_eq_decide.2 w1_
  replace HSg : ∀ W, DgIn W A n c Vs B m k Es → Calls Tryz.prog 103 #[.agg #[.slice A n c, .slice B m k], .agg #[.int .i64 (othW (x1, x2, x3)).1, .int .i64 (othW (x1, x2, x3)).2.1, .int .i64 (othW (x1, x2, x3)).2.2]] W (GivesD W (if (x1, x2, x3) ∈ ringsOf Vs then phF Vs (x1, x2, x3) else (0, 0, 0)) (decide ((x1, x2, x3) ∈ ringsOf Vs))) := fun W h => by
    rw [← hv, ← hd]
    exact HSg W h
  have hr : ∀ x ∈ Vs, x.2.1.2.1 ≤ 1000000 := fun x hx => by have := (hf.small h).2.2 x hx; omega
  have hn : n ≤ 1000000 := by have := (hf.small h).1; omega
  have HAt := fun W (h : DgIn W A n c Vs B m k Es) => rat_any A n c Vs B m k Es x1 x2 x3 W h (by omega) (fun x hx => by have := hr x hx; omega)
  obtain ⟨⟨⟨a1, a2⟩, ok⟩, ga⟩ : ∃ z, atV Vs (x1, x2, x3) = z := ⟨_, rfl⟩
  have P3 : ok = decide ((x1, x2, x3) ∈ ringsOf Vs) := by
    have := (at_fnd hf (x1, x2, x3)).2.2
    rwa [ga] at this
  rw [ga] at HAt
  replace HAt := Lib.hid HAt
  clear ga hr hn
  have HZ0 : RowKit.Hid (decide ((x1, x2, x3) ∈ ringsOf Vs) = false → (if (x1, x2, x3) ∈ ringsOf Vs then phF Vs (x1, x2, x3) else (0, 0, 0)) = ((0, 0, 0) : D)) := Lib.hid (fun e => if_neg (of_decide_eq_false e))
  clear w1_ w2_ hv hd h hf hb
  obtain ⟨⟨y1, y2, y3⟩, gy⟩ : ∃ z, (if (x1, x2, x3) ∈ ringsOf Vs then phF Vs (x1, x2, x3) else (0, 0, 0)) = z := ⟨_, rfl⟩
  obtain ⟨oy, goy⟩ : ∃ z, decide ((x1, x2, x3) ∈ ringsOf Vs) = z := ⟨_, rfl⟩
  rw [gy, goy] at HSg HZ0
  rw [goy] at P3
  replace P3 := Lib.hid P3
  rw [gy, goy]
  clear gy goy
  obtain ⟨⟨u1, u2, u3⟩, gu⟩ : ∃ z, othW (x1, x2, x3) = z := ⟨_, rfl⟩
  rw [gu] at HOt HSg
  clear gu
  replace HSg := Lib.hid HSg
  go_enter Tryz.func94, Tryz.ntmps94
  have lw1 : ((((w.alloc (.cells #[.slice A n c, .slice B m k] 25)).alloc (.cells #[.int .i64 x1, .int .i64 x2, .int .i64 x3] 49)).alloc (.cells #[.int .i64 0, .int .i64 0, .int .i64 0] 49))).cell? ⟨w.heap.size, 0, none⟩ = some (.slice A n c) := (((show Whole (w.alloc (.cells #[.slice A n c, .slice B m k] 25)) (w.heap.size) (25) ([.slice A n c, .slice B m k]) from Whole.new2 (by first | rfl | simp)).al (.cells #[.int .i64 x1, .int .i64 x2, .int .i64 x3] 49)).al (.cells #[.int .i64 0, .int .i64 0, .int .i64 0] 49)).cell (i := 0) rfl
  have lw2 : ((((w.alloc (.cells #[.slice A n c, .slice B m k] 25)).alloc (.cells #[.int .i64 x1, .int .i64 x2, .int .i64 x3] 49)).alloc (.cells #[.int .i64 0, .int .i64 0, .int .i64 0] 49))).cell? ⟨w.heap.size, 1, none⟩ = some (.slice B m k) := (((show Whole (w.alloc (.cells #[.slice A n c, .slice B m k] 25)) (w.heap.size) (25) ([.slice A n c, .slice B m k]) from Whole.new2 (by first | rfl | simp)).al (.cells #[.int .i64 x1, .int .i64 x2, .int .i64 x3] 49)).al (.cells #[.int .i64 0, .int .i64 0, .int .i64 0] 49)).cell (i := 1) rfl
  have lw3 : ((((w.alloc (.cells #[.slice A n c, .slice B m k] 25)).alloc (.cells #[.int .i64 x1, .int .i64 x2, .int .i64 x3] 49)).alloc (.cells #[.int .i64 0, .int .i64 0, .int .i64 0] 49))).cell? ⟨w.heap.size + 1, 0, none⟩ = some (.int .i64 x1) := ((show Whole ((w.alloc (.cells #[.slice A n c, .slice B m k] 25)).alloc (.cells #[.int .i64 x1, .int .i64 x2, .int .i64 x3] 49)) ((w.heap.size + 1)) (49) ([.int .i64 x1, .int .i64 x2, .int .i64 x3]) from Whole.new2 (by first | rfl | simp)).al (.cells #[.int .i64 0, .int .i64 0, .int .i64 0] 49)).cell (i := 0) rfl
  have lw4 : ((((w.alloc (.cells #[.slice A n c, .slice B m k] 25)).alloc (.cells #[.int .i64 x1, .int .i64 x2, .int .i64 x3] 49)).alloc (.cells #[.int .i64 0, .int .i64 0, .int .i64 0] 49))).cell? ⟨w.heap.size + 1, 1, none⟩ = some (.int .i64 x2) := ((show Whole ((w.alloc (.cells #[.slice A n c, .slice B m k] 25)).alloc (.cells #[.int .i64 x1, .int .i64 x2, .int .i64 x3] 49)) ((w.heap.size + 1)) (49) ([.int .i64 x1, .int .i64 x2, .int .i64 x3]) from Whole.new2 (by first | rfl | simp)).al (.cells #[.int .i64 0, .int .i64 0, .int .i64 0] 49)).cell (i := 1) rfl
  have lw5 : ((((w.alloc (.cells #[.slice A n c, .slice B m k] 25)).alloc (.cells #[.int .i64 x1, .int .i64 x2, .int .i64 x3] 49)).alloc (.cells #[.int .i64 0, .int .i64 0, .int .i64 0] 49))).cell? ⟨w.heap.size + 1, 2, none⟩ = some (.int .i64 x3) := ((show Whole ((w.alloc (.cells #[.slice A n c, .slice B m k] 25)).alloc (.cells #[.int .i64 x1, .int .i64 x2, .int .i64 x3] 49)) ((w.heap.size + 1)) (49) ([.int .i64 x1, .int .i64 x2, .int .i64 x3]) from Whole.new2 (by first | rfl | simp)).al (.cells #[.int .i64 0, .int .i64 0, .int .i64 0] 49)).cell (i := 2) rfl
  go_wp2_with fail
  clear lw1 lw2 lw3 lw4 lw5
  refine (HAt.out _ (((HDa.out.al (.cells #[.slice A n c, .slice B m k] 25)).al (.cells #[.int .i64 x1, .int .i64 x2, .int .i64 x3] 49)).al (.cells #[.int .i64 0, .int .i64 0, .int .i64 0] 49))).mono ?_
  rintro e w6 ⟨rfl, hb6⟩
  have Da_7 := Lib.hid ((((HDa.out.al (.cells #[.slice A n c, .slice B m k] 25)).al (.cells #[.int .i64 x1, .int .i64 x2, .int .i64 x3] 49)).al (.cells #[.int .i64 0, .int .i64 0, .int .i64 0] 49)).bl hb6)
  have D0_7 := Lib.hid ((((show Whole (w.alloc (.cells #[.slice A n c, .slice B m k] 25)) (w.heap.size) (25) ([.slice A n c, .slice B m k]) from Whole.new2 (by first | rfl | simp)).al (.cells #[.int .i64 x1, .int .i64 x2, .int .i64 x3] 49)).al (.cells #[.int .i64 0, .int .i64 0, .int .i64 0] 49)).bl hb6)
  have X_7 := Lib.hid (((show Whole ((w.alloc (.cells #[.slice A n c, .slice B m k] 25)).alloc (.cells #[.int .i64 x1, .int .i64 x2, .int .i64 x3] 49)) ((w.heap.size + 1)) (49) ([.int .i64 x1, .int .i64 x2, .int .i64 x3]) from Whole.new2 (by first | rfl | simp)).al (.cells #[.int .i64 0, .int .i64 0, .int .i64 0] 49)).bl hb6)
  have R_7 := Lib.hid ((show Whole (((w.alloc (.cells #[.slice A n c, .slice B m k] 25)).alloc (.cells #[.int .i64 x1, .int .i64 x2, .int .i64 x3] 49)).alloc (.cells #[.int .i64 0, .int .i64 0, .int .i64 0] 49)) ((w.heap.size + 1 + 1)) (49) ([.int .i64 0, .int .i64 0, .int .i64 0]) from Whole.new2 (by first | rfl | simp)).bl hb6)
  have Bel_7 := Lib.hid (bel_bl (bel_al (bel_al (bel_al (Below.refl _ w) (.cells #[.slice A n c, .slice B m k] 25)) (.cells #[.int .i64 x1, .int .i64 x2, .int .i64 x3] 49)) (.cells #[.int .i64 0, .int .i64 0, .int .i64 0] 49)) hb6)
  clear HDa
  clear hb6
  have LO_D0_8 : RowKit.Hid (w.heap.size ≤ w.heap.size) := Lib.hid (by omega)
  have LO_X_9 : RowKit.Hid (w.heap.size ≤ (w.heap.size + 1)) := Lib.hid (by omega)
  have NE_D0_X : RowKit.Hid (w.heap.size ≠ (w.heap.size + 1)) := Lib.hid (by omega)
  have LO_R_10 : RowKit.Hid (w.heap.size ≤ (w.heap.size + 1 + 1)) := Lib.hid (by omega)
  have NE_D0_R : RowKit.Hid (w.heap.size ≠ (w.heap.size + 1 + 1)) := Lib.hid (by omega)
  have NE_X_R : RowKit.Hid ((w.heap.size + 1) ≠ (w.heap.size + 1 + 1)) := Lib.hid (by omega)
  cases ok with
  | false =>
    obtain rfl : false = oy := P3.out
    obtain ⟨hy1, hy2, hy3⟩ : y1 = 0 ∧ y2 = 0 ∧ y3 = 0 := by
      have := HZ0.out rfl
      simp only [Prod.mk.injEq] at this
      exact this
    subst hy1 hy2 hy3
    have z0 := (R_7.out.al (.cells #[.int .i64 a1, .int .i64 a2] 41)).cell (i := 0) rfl
    have z1 := (R_7.out.al (.cells #[.int .i64 a1, .int .i64 a2] 41)).cell (i := 1) rfl
    have z2 := (R_7.out.al (.cells #[.int .i64 a1, .int .i64 a2] 41)).cell (i := 2) rfl
    have f0 := (R_7.out.al (.cells #[.int .i64 a1, .int .i64 a2] 41)).free 0
    have f1 := (R_7.out.al (.cells #[.int .i64 a1, .int .i64 a2] 41)).free 1
    have f2 := (R_7.out.al (.cells #[.int .i64 a1, .int .i64 a2] 41)).free 2
    have HY := Lib.hid ((((R_7.out.al (.cells #[.int .i64 a1, .int .i64 a2] 41)).set_ 0 (.int .i64 0)).set_ 1 (.int .i64 0)).set_ 2 (.int .i64 0))
    have HBz := Lib.hid ((((bel_al Bel_7.out (.cells #[.int .i64 a1, .int .i64 a2] 41)).setCell (p := ⟨w.heap.size + 1 + 1, 0, none⟩) (show w.heap.size ≤ w.heap.size + 1 + 1 by omega) (.int .i64 0)).setCell (p := ⟨w.heap.size + 1 + 1, 1, none⟩) (show w.heap.size ≤ w.heap.size + 1 + 1 by omega) (.int .i64 0)).setCell (p := ⟨w.heap.size + 1 + 1, 2, none⟩) (show w.heap.size ≤ w.heap.size + 1 + 1 by omega) (.int .i64 0))
    go_wp2
    exact ret_whole2 rfl (w.heap.size + 1 + 1) rfl rfl HY.out Tryz.underlying49 rfl (by kernel_rfl) rfl ⟨rfl, HBz.out⟩
  | true =>
  clear P3 HAt HZ0
  go_upto_region 4 with fail
  have Da_11 := Lib.hid ((Da_7.out.al (.cells #[.int .i64 a1, .int .i64 a2] 41)))
  have D0_11 := Lib.hid ((D0_7.out.al (.cells #[.int .i64 a1, .int .i64 a2] 41)))
  have X_11 := Lib.hid ((X_7.out.al (.cells #[.int .i64 a1, .int .i64 a2] 41)))
  have R_11 := Lib.hid ((R_7.out.al (.cells #[.int .i64 a1, .int .i64 a2] 41)))
  have I_11 := Lib.hid ((show Whole (w6.alloc (.cells #[.int .i64 a1, .int .i64 a2] 41)) (w6.heap.size) (41) ([.int .i64 a1, .int .i64 a2]) from Whole.new2 (by first | rfl | simp)))
  have Bel_11 := Lib.hid (bel_al Bel_7.out (.cells #[.int .i64 a1, .int .i64 a2] 41))
  obtain ⟨v11, gv11⟩ : ∃ x, (w6.alloc (.cells #[.int .i64 a1, .int .i64 a2] 41)) = x := ⟨_, rfl⟩
  rw [gv11] at Da_11 D0_11 X_11 R_11 I_11 Bel_11 ⊢
  clear gv11
  clear Da_7 D0_7 X_7 R_7 Bel_7
  have HLd : RowKit.Hid (∀ W', Ext v11.drew W' → W'.cell? ⟨w.heap.size, 0, none⟩ = some (.slice A n c) ∧ W'.cell? ⟨w.heap.size, 1, none⟩ = some (.slice B m k) ∧ W'.cell? ⟨w.heap.size + 1, 0, none⟩ = some (.int .i64 x1) ∧ W'.cell? ⟨w.heap.size + 1, 1, none⟩ = some (.int .i64 x2) ∧ W'.cell? ⟨w.heap.size + 1, 2, none⟩ = some (.int .i64 x3)) :=
    Lib.hid (fun W' h => ⟨(D0_11.out.dr.bl h).cell (i := 0) rfl, (D0_11.out.dr.bl h).cell (i := 1) rfl, (X_11.out.dr.bl h).cell (i := 0) rfl, (X_11.out.dr.bl h).cell (i := 1) rfl, (X_11.out.dr.bl h).cell (i := 2) rfl⟩)
  refine wp_region_in2 6 (fun i => i = w.heap.size + 1 + 1) (gamL [some (.agg #[.slice A n c, .slice B m k]), some (.agg #[.int .i64 x1, .int .i64 x2, .int .i64 x3]), some (.agg #[.int .i64 u1, .int .i64 u2, .int .i64 u3]), some (.tuple #[.agg #[.int .i64 y1, .int .i64 y2, .int .i64 y3], .bool oy]), some (.agg #[.int .i64 y1, .int .i64 y2, .int .i64 y3]), some (.bool oy)] 99 0 0 []) (Ext v11.drew) (by kernel_rfl) (by kernel_rfl) (by kernel_rfl) (by kernel_rfl) (by kernel_rfl) (fun i v w1 w2 h hx => gamL_up i v w1 w2 h hx) (fun _ _ h k => h.trans k) (Ext.refl _) ?_ ?_
  · intro i hi9
    have hcase : i = 0 ∨ i = 1 ∨ i = 2 ∨ i = 3 ∨ i = 4 ∨ i = 5 := by omega
    rcases hcase with rfl | rfl | rfl | rfl | rfl | rfl
    · intro o ho x y hg hdep
      simp only [List.getElem?_toArray, List.getElem?_cons_succ, List.getElem?_cons_zero, Option.some.injEq] at ho
      subst ho
      obtain ⟨hl0, hl1, hl2, hl3, hl4⟩ := HLd.out _ hg
      simp only [dsts, List.map_cons, List.map_nil, putAll, Act.put, List.setIfInBounds_toArray, List.set_cons_zero, List.set_cons_succ]
      refine .inl ⟨by rfl, ?_⟩
      go_simp
      exact ⟨Ext.refl _, rfl⟩
    · intro o ho x y hg hdep
      simp only [List.getElem?_toArray, List.getElem?_cons_succ, List.getElem?_cons_zero, Option.some.injEq] at ho
      subst ho
      obtain ⟨hl0, hl1, hl2, hl3, hl4⟩ := HLd.out _ hg
      simp only [dsts, List.map_cons, List.map_nil, putAll, Act.put, List.setIfInBounds_toArray, List.set_cons_zero, List.set_cons_succ]
      refine .inl ⟨by rfl, ?_⟩
      go_simp
      exact ⟨Ext.refl _, rfl⟩
    · intro o ho x y hg hdep
      simp only [List.getElem?_toArray, List.getElem?_cons_succ, List.getElem?_cons_zero, Option.some.injEq] at ho
      subst ho
      have d1 : x 1 = .agg #[.int .i64 x1, .int .i64 x2, .int .i64 x3] := hdep 1 (by decide)
      simp only [dsts, List.map_cons, List.map_nil, putAll, Act.put, List.setIfInBounds_toArray, List.set_cons_zero, List.set_cons_succ]
      simp only [d1]
      refine .inl ⟨by rfl, outT_call (by go_simp; first | done | exact ⟨rfl, rfl⟩ | with_reducible rfl) ?_⟩
      refine (HOt.out y).mono ?_
      rintro e w2 ⟨rfl, hb⟩
      exact ⟨_, rfl, hb, rfl⟩
    · intro o ho x y hg hdep
      simp only [List.getElem?_toArray, List.getElem?_cons_succ, List.getElem?_cons_zero, Option.some.injEq] at ho
      subst ho
      have d0 : x 0 = .agg #[.slice A n c, .slice B m k] := hdep 0 (by decide)
      have d2 : x 2 = .agg #[.int .i64 u1, .int .i64 u2, .int .i64 u3] := hdep 2 (by decide)
      have d2 : x 2 = .agg #[.int .i64 u1, .int .i64 u2, .int .i64 u3] := hdep 2 (by decide)
      simp only [dsts, List.map_cons, List.map_nil, putAll, Act.put, List.setIfInBounds_toArray, List.set_cons_zero, List.set_cons_succ]
      simp only [d0, d2, d2]
      refine .inl ⟨by rfl, outT_call (by go_simp; first | done | exact ⟨rfl, rfl⟩ | with_reducible rfl) ?_⟩
      refine (HSg.out y (Da_11.out.dr.bl hg)).mono ?_
      rintro e w2 ⟨rfl, hb⟩
      exact ⟨_, rfl, hb, rfl⟩
    · intro o ho x y hg hdep
      simp only [List.getElem?_toArray, List.getElem?_cons_succ, List.getElem?_cons_zero, Option.some.injEq] at ho
      subst ho
      have d3 : x 3 = .tuple #[.agg #[.int .i64 y1, .int .i64 y2, .int .i64 y3], .bool oy] := hdep 3 (by decide)
      simp only [dsts, List.map_cons, List.map_nil, putAll, Act.put, List.setIfInBounds_toArray, List.set_cons_zero, List.set_cons_succ]
      simp only [d3]
      refine .inl ⟨by rfl, ?_⟩
      go_simp
      exact ⟨Ext.refl _, rfl⟩
    · intro o ho x y hg hdep
      simp only [List.getElem?_toArray, List.getElem?_cons_succ, List.getElem?_cons_zero, Option.some.injEq] at ho
      subst ho
      have d3 : x 3 = .tuple #[.agg #[.int .i64 y1, .int .i64 y2, .int .i64 y3], .bool oy] := hdep 3 (by decide)
      simp only [dsts, List.map_cons, List.map_nil, putAll, Act.put, List.setIfInBounds_toArray, List.set_cons_zero, List.set_cons_succ]
      simp only [d3]
      refine .inl ⟨by rfl, ?_⟩
      go_simp
      exact ⟨Ext.refl _, rfl⟩
  intro x y hg hall
  have d0 : x 0 = .agg #[.slice A n c, .slice B m k] := hall 0 (by decide)
  have d1 : x 1 = .agg #[.int .i64 x1, .int .i64 x2, .int .i64 x3] := hall 1 (by decide)
  have d2 : x 2 = .agg #[.int .i64 u1, .int .i64 u2, .int .i64 u3] := hall 2 (by decide)
  have d3 : x 3 = .tuple #[.agg #[.int .i64 y1, .int .i64 y2, .int .i64 y3], .bool oy] := hall 3 (by decide)
  have d4 : x 4 = .agg #[.int .i64 y1, .int .i64 y2, .int .i64 y3] := hall 4 (by decide)
  have d5 : x 5 = .bool oy := hall 5 (by decide)
  simp only [dsts, List.map_cons, List.map_nil, putAll, Act.put, List.setIfInBounds_toArray, List.set_cons_zero, List.set_cons_succ]
  simp only [d0, d1, d2, d3, d4, d5]
  clear hall d0 d1 d2 d3 d4 d5
  apply wpR_store 6
  · simp only [List.getElem?_toArray, List.getElem?_cons_succ, List.getElem?_cons_zero]; exact rfl
  · rfl
  · kernel_rfl
  · rfl
  intro w' hw'
  have HYw := Lib.hid ((R_11.out.dr.bl hg).bl hw')
  have HBw := Lib.hid (bel_bl (bel_bl (bel_dr Bel_11.out) hg) hw')
  refine ⟨w'.setRow (w.heap.size + 1 + 1) #[.int .i64 y1, .int .i64 y2, .int .i64 y3], store_row_run 49 (.tmp 4) (.tmp 21) rfl (w.heap.size + 1 + 1) rfl [.int .i64 y1, .int .i64 y2, .int .i64 y3] rfl 49 [.int .i64 0, .int .i64 0, .int .i64 0] HYw.out (by kernel_rfl) rfl (by simp [Value.oneCell']), kept_row (S := fun i => i = w.heap.size + 1 + 1) rfl _, ?_⟩
  have HYs : RowKit.Hid (Whole (w'.setRow (w.heap.size + 1 + 1) #[.int .i64 y1, .int .i64 y2, .int .i64 y3]) (w.heap.size + 1 + 1) 49 [.int .i64 y1, .int .i64 y2, .int .i64 y3]) := Lib.hid (Whole.row HYw.out [.int .i64 y1, .int .i64 y2, .int .i64 y3])
  have HBs : RowKit.Hid (Below w.heap.size w (w'.setRow (w.heap.size + 1 + 1) #[.int .i64 y1, .int .i64 y2, .int .i64 y3])) := Lib.hid (below_row HBw.out (by omega) _)
  obtain ⟨V1, gV1⟩ : ∃ z, w'.setRow (w.heap.size + 1 + 1) #[.int .i64 y1, .int .i64 y2, .int .i64 y3] = z := ⟨_, rfl⟩
  rw [gV1] at HYs HBs ⊢
  clear hw' hg gV1 HYw HBw HLd
  apply wpR_next 7 (some 5)
  · simp only [List.getElem?_toArray, List.getElem?_cons_succ, List.getElem?_cons_zero]; exact rfl
  · rfl
  · kernel_rfl
  · kernel_rfl
  · kernel_rfl
  · exact fun _ _ _ _ h => h
  apply Exists.intro
  apply And.intro
  · apply yr_run; rfl; intro w' hw'; go_simp; (try with_reducible rfl)
  simp only [Act.put, List.setIfInBounds_toArray, List.set_cons_zero, List.set_cons_succ]
  refine wpR_done (by kernel_rfl) ?_ _
  intro W8 hw8
  have HY := Lib.hid (HYs.out.bl hw8)
  have HBz := Lib.hid (bel_bl HBs.out hw8)
  clear hw8 HYs HBs
  go_wp2
  exact ret_whole2 rfl (w.heap.size + 1 + 1) rfl rfl HY.out Tryz.underlying49 rfl (by kernel_rfl) rfl ⟨rfl, HBz.out⟩
end Go.Proofs.YtahbfdhjgnlmdaaGreat

/- The document's Trace. -/
namespace Go.Proofs.YtahbfdhjgnlmdaaGreat
open Go.RowKit
set_option linter.unusedSimpArgs false
set_option linter.unusedVariables false


def lenS : Value → Nat
  | .slice _ n _ => n
  | _ => 0
theorem Ow.cell_ {w W : World} {B size n g : Nat} {e : TypeId} {v : Value} {xs : List Value} (h : Ow w B e size v n xs W) (hne : some g ≠ v.ownBlock) (hg : w.heap.size ≤ g) (i : Nat) (u : Value) : Ow w B e size v n xs (W.setCell ⟨g, i, none⟩ u) :=
  ⟨own_cell_far h.own hne u, h.below.setCell (p := ⟨g, i, none⟩) hg u, h.lo, by simpa [World.setCell] using h.hi⟩
theorem orb_more {f : D → D} (x : D) (j : Nat) : orbN f x (j + 1) = orbN f x j ++ [itN f j x] := by
  unfold orbN
  rw [List.range_succ, List.map_append]
  rfl
set_option maxRecDepth 100000 in
set_option maxHeartbeats 4000000 in
theorem rtrace_any (A : Option Addr) (n c : Nat) (Vs : List VC) (B : Option Addr) (m k : Nat) (Es : List EC) (x1 x2 x3 : Int) (w : World) (h : DgIn w A n c Vs B m k Es) (hf : Formed Vs Es) (hb : -9223372036854775808 ≤ x3 ∧ x3 ≤ 9223372036854775807) :
    Calls Tryz.prog 83 #[.agg #[.slice A n c, .slice B m k], .agg #[.int .i64 x1, .int .i64 x2, .int .i64 x3]] w fun e w' => ∃ A' c', e = .returned (.slice A' (faceD Vs (x1, x2, x3)).length c') ∧ w'.ownsRow w.heap.size 49 3 (.slice A' (faceD Vs (x1, x2, x3)).length c') (faceD Vs (x1, x2, x3)).length (dartsV (faceD Vs (x1, x2, x3))) ∧ Below w.heap.size w w' := by
  have HDa := Lib.hid h
  have HFm := Lib.hid hf
  obtain ⟨i0, hi0, hz0, hz1, hz2⟩ := info_partsD info_dartD
  have hPx := fun W (h : DgIn W A n c Vs B m k Es) => rphi_any A n c Vs B m k Es x1 x2 x3 W h hf hb
  have HPy : RowKit.Hid (∀ y1 y2 y3 : Int, (y1, y2, y3) ∈ ringsOf Vs → ∀ W, DgIn W A n c Vs B m k Es → Calls Tryz.prog 94 #[.agg #[.slice A n c, .slice B m k], .agg #[.int .i64 y1, .int .i64 y2, .int .i64 y3]] W (GivesD W (phF Vs (y1, y2, y3)) true)) := Lib.hid (fun y1 y2 y3 hy W h => by
    obtain ⟨e, _, _, q⟩ := (hf.mem _).1 hy
    have := rphi_any A n c Vs B m k Es y1 y2 y3 W h hf (by simp only at q; omega)
    rwa [if_pos hy, decide_eq_true hy] at this)
  by_cases hx : (x1, x2, x3) ∈ ringsOf Vs
  · obtain ⟨p, hp, hpl⟩ := hf.phi.per hx
    have h80 := hf.l80
    have ef : faceD Vs (x1, x2, x3) = orbN (phF Vs) (x1, x2, x3) p := by rw [faceD, if_pos hx, orbT_all hp (by omega)]
    have hp80 : p ≤ 80 := by omega
    simp only [if_pos hx, decide_eq_true hx] at hPx
    rw [ef, orb_len]
    have HPx := Lib.hid hPx
    have Hp := Lib.hid hp
    have Hx := Lib.hid hx
    obtain ⟨⟨p1, p2, p3⟩, gp⟩ : ∃ z, phF Vs (x1, x2, x3) = z := ⟨_, rfl⟩
    rw [gp] at HPx
    have Gp := Lib.hid gp
    have hpos := hp.pos
    clear h hf hb hPx hx hp hpl h80 ef gp
    go_enter Tryz.func83, Tryz.ntmps83
    go_upto_region 1 with fail
    have hx0 : Whole ((w.alloc (.cells #[.slice A n c, .slice B m k] 25)).alloc (.cells #[.int .i64 x1, .int .i64 x2, .int .i64 x3] 49)) (w.heap.size) 25 [.slice A n c, .slice B m k] := ((Whole.new_ w 25 [.slice A n c, .slice B m k]).alloc (.cells #[.int .i64 x1, .int .i64 x2, .int .i64 x3] 49))
    have hx1 : Whole ((w.alloc (.cells #[.slice A n c, .slice B m k] 25)).alloc (.cells #[.int .i64 x1, .int .i64 x2, .int .i64 x3] 49)) (w.heap.size + 1) 49 [.int .i64 x1, .int .i64 x2, .int .i64 x3] := (Whole.new2 (w := (w.alloc (.cells #[.slice A n c, .slice B m k] 25))) (by simp))
    have hbl : Below w.heap.size w ((w.alloc (.cells #[.slice A n c, .slice B m k] 25)).alloc (.cells #[.int .i64 x1, .int .i64 x2, .int .i64 x3] 49)) := (bel_al (below1 w (.cells #[.slice A n c, .slice B m k] 25)) (.cells #[.int .i64 x1, .int .i64 x2, .int .i64 x3] 49))
    have hsz : w.heap.size + 1 + 1 ≤ (((w.alloc (.cells #[.slice A n c, .slice B m k] 25)).alloc (.cells #[.int .i64 x1, .int .i64 x2, .int .i64 x3] 49))).heap.size := by simp
    obtain ⟨W0, gW0⟩ : ∃ z, ((w.alloc (.cells #[.slice A n c, .slice B m k] 25)).alloc (.cells #[.int .i64 x1, .int .i64 x2, .int .i64 x3] 49)) = z := ⟨_, rfl⟩
    rw [gW0] at hx0 hx1 hbl hsz
    obtain ⟨b1, gb1⟩ : ∃ z, w.heap.size + 1 = z := ⟨_, rfl⟩
    rw [gb1] at hx1
    obtain ⟨b0, gb0⟩ : ∃ z, w.heap.size = z := ⟨_, rfl⟩
    rw [gb0] at hx0
    have HX0 := Lib.hid hx0
    have HX1 := Lib.hid hx1
    have HB0 := Lib.hid hbl
    have HS0 := Lib.hid hsz
    have Gb0 := Lib.hid gb0
    have Lb0 : RowKit.Hid (w.heap.size ≤ b0) := Lib.hid (by omega)
    have Gb1 := Lib.hid gb1
    have Lb1 : RowKit.Hid (w.heap.size ≤ b1) := Lib.hid (by omega)
    have N01 : RowKit.Hid (b0 ≠ b1) := Lib.hid (by omega)
    rw [gW0, gb1, gb0]
    clear gW0 hbl hsz hx0 hx1 gb0 gb1
    have HD1 := Lib.hid (HX0.out.al (.cells #[] 49))
    have HX1 := Lib.hid (HX1.out.al (.cells #[] 49))
    have HO1 : RowKit.Hid (Ow w (b1 + 1) 49 3 (.slice (some ⟨W0.heap.size, 0, none⟩) 0 0) 0 [] (W0.alloc (.cells #[] 49))) := Lib.hid (Ow.new_ (cs := #[]) HB0.out (by have := Lb1.out; omega) (by have := HX1.out.lt; simp at this; have := HS0.out; have := Gb1.out; omega) (by unfold maxLen; omega) rfl)
    have c0 := HD1.out.cell (i := 0) rfl
    have c1 := HD1.out.cell (i := 1) rfl
    have d0 := HX1.out.cell (i := 0) rfl
    have d1 := HX1.out.cell (i := 1) rfl
    have d2 := HX1.out.cell (i := 2) rfl
    go_wp2_with fail
    refine (HPx.out _ (HDa.out.bl HO1.out.below)).mono ?_
    rintro e w2 ⟨rfl, hb2⟩
    have HD2 := Lib.hid (HD1.out.bl hb2)
    have HX2 := Lib.hid (HX1.out.bl hb2)
    have HO2 := Lib.hid (HO1.out.up hb2)
    clear c0 c1 d0 d1 d2 HD1 HX1 HO1 HX0 HB0
    have HO2n : RowKit.Hid (some w2.heap.size ≠ (Value.slice (some ⟨W0.heap.size, 0, none⟩) 0 0).ownBlock) := Lib.hid (HO2.out.ne_ (Nat.le_refl _))
    clear hb2
    have HD3 := Lib.hid (HD2.out.al (.cells #[.int .i64 p1, .int .i64 p2, .int .i64 p3] 49))
    have HXc := Lib.hid (HX2.out.al (.cells #[.int .i64 p1, .int .i64 p2, .int .i64 p3] 49))
    have HY3 := Lib.hid (Whole.new_ w2 49 [.int .i64 p1, .int .i64 p2, .int .i64 p3])
    have HO3 := Lib.hid (HO2.out.up (below1 w2 (.cells #[.int .i64 p1, .int .i64 p2, .int .i64 p3] 49)))
    go_upto_region 5 with fail
    have L3a : w.heap.size ≤ w2.heap.size := HO2.out.below.size
    have N3a : b1 < w2.heap.size := HX2.out.lt
    obtain ⟨W3, gW3⟩ : ∃ z, w2.alloc (.cells #[.int .i64 p1, .int .i64 p2, .int .i64 p3] 49) = z := ⟨_, rfl⟩
    obtain ⟨b3, gb3⟩ : ∃ z, w2.heap.size = z := ⟨_, rfl⟩
    obtain ⟨g1, gg1⟩ : ∃ z, W0.heap.size = z := ⟨_, rfl⟩
    rw [gW3] at HD3 HXc HY3 HO3 ⊢
    rw [gb3] at HY3 HO2n L3a N3a ⊢
    rw [gg1] at HO3 HO2n ⊢
    have L3 := Lib.hid L3a
    have N3 := Lib.hid N3a
    obtain ⟨v0, gv0⟩ : ∃ z, Value.slice (some ⟨g1, 0, none⟩) 0 0 = z := ⟨_, rfl⟩
    rw [gv0] at HO3 HO2n ⊢
    clear gW3 gb3 gg1 gv0 HD2 HX2 HO2 L3a N3a
    have d0 := HXc.out.cell (i := 0) rfl
    have d1 := HXc.out.cell (i := 1) rfl
    have d2 := HXc.out.cell (i := 2) rfl
    obtain ⟨v5, w5, hrun, how5, hb5, hg5, ho5⟩ := Ow.app2 (P := Tryz.prog) 45 45 49 i0 _ 3 24 (b1 + 1) Tryz.underlying45 hi0 hz0 hz1 hz2 rfl (by decide) _ 0 _ (HO3.out.up (below1 _ _)) _ (some ⟨W3.heap.size, 0, none⟩) 1 1 (dartsV [(x1, x2, x3)]) (RdS.whole3 (L := [(x1, x2, x3)]) (Whole.new_ W3 49 [.int .i64 x1, .int .i64 x2, .int .i64 x3])) (dartsV_one _) (by unfold maxLen; omega) (by omega)
    obtain ⟨A5, c5, rfl, -⟩ := how5.rds
    have HN5 : RowKit.Hid (some b3 ≠ (Value.slice A5 1 c5).ownBlock) := Lib.hid (Ow.ne2 HO2n.out (by have := HY3.out.lt; simp; omega) ho5)
    have HD5 := Lib.hid ((HD3.out.al (.cells #[.int .i64 x1, .int .i64 x2, .int .i64 x3] 49)).at_ (hb5.block b0 (by have := Gb0.out; have := Gb1.out; omega)))
    have HX5 := Lib.hid ((HXc.out.al (.cells #[.int .i64 x1, .int .i64 x2, .int .i64 x3] 49)).at_ (hb5.block b1 (by omega)))
    have HY5 := Lib.hid ((HY3.out.al (.cells #[.int .i64 x1, .int .i64 x2, .int .i64 x3] 49)).grown hg5 HO2n.out)
    have HO5 : RowKit.Hid (Ow w (b1 + 1) 49 3 (.slice A5 1 c5) 1 (dartsV (orbN (phF Vs) (x1, x2, x3) 1)) w5) := Lib.hid how5
    have Hrun := Lib.hid hrun
    clear hrun how5 hb5 hg5 ho5 HD3 HXc HY3 HO3 HO2n
    go_wp2_with (first
      | (at_builtin
         refine wpList_app rfl (.tmp 18) (.tmp 20) _ rfl rfl rfl Hrun.out ?_
         clear d0 d1 d2 Hrun))
    skip
    go_loopw [5] (fun so wr => ∃ (j : Nat) (A2 : Option Addr) (c2 : Nat) (y1 y2 y3 : Int), 1 ≤ j ∧ j ≤ p ∧ so = .slice A2 j c2 ∧ RowKit.Hid (Whole wr b0 25 [.slice A n c, .slice B m k]) ∧ RowKit.Hid (Whole wr b1 49 [.int .i64 x1, .int .i64 x2, .int .i64 x3]) ∧ RowKit.Hid (Whole wr b3 49 [.int .i64 y1, .int .i64 y2, .int .i64 y3]) ∧ RowKit.Hid (Ow w (b1 + 1) 49 3 (.slice A2 j c2) j (dartsV (orbN (phF Vs) (x1, x2, x3) j)) wr) ∧ RowKit.Hid (some b3 ≠ (Value.slice A2 j c2).ownBlock) ∧ RowKit.Hid (itN (phF Vs) j (x1, x2, x3) = (y1, y2, y3))) (fun so _ => p - (lenS so))
    case atStart => exact ⟨1, A5, c5, p1, p2, p3, by omega, hpos, rfl, HD5, HX5, HY5, HO5, HN5, Lib.hid Gp.out⟩
    case round =>
      clear HD5 HX5 HY5 HO5 HN5
      obtain ⟨j, A2, c2, y1, y2, y3, hj1, hj, rfl, HD, HX, HY, HO, HN, HI⟩ := hrel
      obtain ⟨wo, gwo⟩ : ∃ z, wr = z := ⟨_, rfl⟩
      rw [gwo] at HD HX HY HO ⊢
      clear gwo
      have c0 := HD.out.cell (i := 0) rfl
      have c1 := HD.out.cell (i := 1) rfl
      have d0 := HX.out.cell (i := 0) rfl
      have d1 := HX.out.cell (i := 1) rfl
      have d2 := HX.out.cell (i := 2) rfl
      have e0 := HY.out.cell (i := 0) rfl
      have e1 := HY.out.cell (i := 1) rfl
      have e2 := HY.out.cell (i := 2) rfl
      by_cases hjp : j < p
      · have hne : ¬ (y1, y2, y3) = (x1, x2, x3) := fun e => Hp.out.ne j (by omega) hjp (HI.out.trans e)
        have hyr : (y1, y2, y3) ∈ ringsOf Vs := HI.out ▸ HFm.out.phi.it Hx.out j
        have hlt : decide ((j : Int) < 82) = true := decide_eq_true (by omega)
        have HPj := Lib.hid (HPy.out y1 y2 y3 hyr)
        obtain ⟨⟨q1, q2, q3⟩, gq⟩ : ∃ z, phF Vs (y1, y2, y3) = z := ⟨_, rfl⟩
        rw [gq] at HPj
        have HI2 : RowKit.Hid (itN (phF Vs) (j + 1) (x1, x2, x3) = (q1, q2, q3)) := Lib.hid (by rw [it_succ, HI.out, gq])
        have HOn : RowKit.Hid (dartsV (orbN (phF Vs) (x1, x2, x3) j) ++ dartsV [(y1, y2, y3)] = dartsV (orbN (phF Vs) (x1, x2, x3) (j + 1))) := Lib.hid (by rw [orb_more, HI.out, dartsV_app])
        have ht : ∀ W, (binOp .neq 49 (.agg #[.int .i64 y1, .int .i64 y2, .int .i64 y3]) (.agg #[.int .i64 x1, .int .i64 x2, .int .i64 x3])).run Tryz.prog W = .ok (.bool true) W := fun W => by
          have e := neq_dart_run (y1, y2, y3) (x1, x2, x3) W
          rw [decide_eq_false hne] at e
          exact e
        clear hne hyr gq
        go_upto_region 7 with fail
        clear ht hlt
        obtain ⟨v7, w7, hrun, how7, hb7, hg7, ho7⟩ := Ow.app2 (P := Tryz.prog) 45 45 49 i0 _ 3 24 (b1 + 1) Tryz.underlying45 hi0 hz0 hz1 hz2 rfl (by decide) _ j _ (HO.out.up (below1 _ _)) _ (some ⟨wo.heap.size, 0, none⟩) 1 1 (dartsV [(y1, y2, y3)]) (RdS.whole3 (L := [(y1, y2, y3)]) (Whole.new_ wo 49 [.int .i64 y1, .int .i64 y2, .int .i64 y3])) (dartsV_one _) (by unfold maxLen; omega) (by omega)
        obtain ⟨A7, c7, rfl, -⟩ := how7.rds
        have HN7 : RowKit.Hid (some b3 ≠ (Value.slice A7 (j + 1) c7).ownBlock) := Lib.hid (Ow.ne2 HN.out (by have := HY.out.lt; simp; omega) ho7)
        have HD7 := Lib.hid ((HD.out.al (.cells #[.int .i64 y1, .int .i64 y2, .int .i64 y3] 49)).at_ (hb7.block b0 (by have := Gb0.out; have := Gb1.out; omega)))
        have HX7 := Lib.hid ((HX.out.al (.cells #[.int .i64 y1, .int .i64 y2, .int .i64 y3] 49)).at_ (hb7.block b1 (by omega)))
        have HY7 := Lib.hid ((HY.out.al (.cells #[.int .i64 y1, .int .i64 y2, .int .i64 y3] 49)).grown hg7 HN.out)
        have HO7 : RowKit.Hid (Ow w (b1 + 1) 49 3 (.slice A7 (j + 1) c7) (j + 1) (dartsV (orbN (phF Vs) (x1, x2, x3) (j + 1))) w7) := Lib.hid (by rw [← HOn.out]; exact how7)
        have Hrun := Lib.hid hrun
        clear hrun how7 hb7 hg7 ho7 HD HX HY HO HN
        go_upto_region 8 with (first
          | (at_builtin
             refine wpList_app rfl (.tmp 30) (.tmp 32) _ rfl rfl rfl Hrun.out ?_
             clear c0 c1 d0 d1 d2 e0 e1 e2 Hrun))
        have c0 := HD7.out.cell (i := 0) rfl
        have c1 := HD7.out.cell (i := 1) rfl
        have e0 := HY7.out.cell (i := 0) rfl
        have e1 := HY7.out.cell (i := 1) rfl
        have e2 := HY7.out.cell (i := 2) rfl
        go_wp2_with fail
        refine (HPj.out _ (HDa.out.bl HO7.out.below)).mono ?_
        rintro e w8 ⟨rfl, hb8⟩
        have HD8 := Lib.hid (HD7.out.bl hb8)
        have HX8 := Lib.hid (HX7.out.bl hb8)
        have HY8 := Lib.hid (HY7.out.bl hb8)
        have HO8 := Lib.hid (HO7.out.up hb8)
        clear hb8 c0 c1 e0 e1 e2 HD7 HX7 HY7 HO7
        have f0 := HY8.out.free 0
        have f1 := HY8.out.free 1
        have f2 := HY8.out.free 2
        have e0 := HY8.out.cell (i := 0) rfl
        have e1 := HY8.out.cell (i := 1) rfl
        have e2 := HY8.out.cell (i := 2) rfl
        go_wp2
        have hn0 : b0 ≠ b3 := by have := N3.out; have := Gb0.out; have := Gb1.out; omega
        have hn1 : b1 ≠ b3 := by have := N3.out; omega
        have HD9 := Lib.hid (((HD8.out.far (p := ⟨b3, 0, none⟩) hn0 (.int .i64 q1)).far (p := ⟨b3, 1, none⟩) hn0 (.int .i64 q2)).far (p := ⟨b3, 2, none⟩) hn0 (.int .i64 q3))
        have HX9 := Lib.hid (((HX8.out.far (p := ⟨b3, 0, none⟩) hn1 (.int .i64 q1)).far (p := ⟨b3, 1, none⟩) hn1 (.int .i64 q2)).far (p := ⟨b3, 2, none⟩) hn1 (.int .i64 q3))
        have HY9 := Lib.hid (((HY8.out.set_ 0 (.int .i64 q1)).set_ 1 (.int .i64 q2)).set_ 2 (.int .i64 q3))
        have HO9 := Lib.hid (((HO8.out.cell_ HN7.out L3.out 0 (.int .i64 q1)).cell_ HN7.out L3.out 1 (.int .i64 q2)).cell_ HN7.out L3.out 2 (.int .i64 q3))
        clear e0 e1 e2 f0 f1 f2
        go_roundw
        case rel => exact ⟨j + 1, A7, c7, q1, q2, q3, by omega, hjp, by go_num, HD9, HX9, HY9, HO9, HN7, HI2⟩
        case measure => simp [lenS]; omega
      · obtain rfl : p = j := by omega
        have he : (y1, y2, y3) = (x1, x2, x3) := HI.out.symm.trans Hp.out.back
        simp only [Prod.mk.injEq] at he
        obtain ⟨rfl, rfl, rfl⟩ := he
        have ht : ∀ W, (binOp .neq 49 (.agg #[.int .i64 y1, .int .i64 y2, .int .i64 y3]) (.agg #[.int .i64 y1, .int .i64 y2, .int .i64 y3])).run Tryz.prog W = .ok (.bool false) W := fun W => by
          have e := neq_dart_run (y1, y2, y3) (y1, y2, y3) W
          rw [decide_eq_true rfl] at e
          exact e
        go_wp2
        go_ret
        exact ⟨A2, c2, rfl, own_base HO.out.own (by have := Lb1.out; omega), HO.out.below⟩
  · have ef : faceD Vs (x1, x2, x3) = [] := by rw [faceD, if_neg hx]
    simp only [if_neg hx, decide_eq_false hx] at hPx
    rw [ef]
    have HPx := Lib.hid hPx
    clear h hf hb hPx hx ef HPy
    go_enter Tryz.func83, Tryz.ntmps83
    go_upto_region 1 with fail
    have hx0 : Whole ((w.alloc (.cells #[.slice A n c, .slice B m k] 25)).alloc (.cells #[.int .i64 x1, .int .i64 x2, .int .i64 x3] 49)) (w.heap.size) 25 [.slice A n c, .slice B m k] := ((Whole.new_ w 25 [.slice A n c, .slice B m k]).alloc (.cells #[.int .i64 x1, .int .i64 x2, .int .i64 x3] 49))
    have hx1 : Whole ((w.alloc (.cells #[.slice A n c, .slice B m k] 25)).alloc (.cells #[.int .i64 x1, .int .i64 x2, .int .i64 x3] 49)) (w.heap.size + 1) 49 [.int .i64 x1, .int .i64 x2, .int .i64 x3] := (Whole.new2 (w := (w.alloc (.cells #[.slice A n c, .slice B m k] 25))) (by simp))
    have hbl : Below w.heap.size w ((w.alloc (.cells #[.slice A n c, .slice B m k] 25)).alloc (.cells #[.int .i64 x1, .int .i64 x2, .int .i64 x3] 49)) := (bel_al (below1 w (.cells #[.slice A n c, .slice B m k] 25)) (.cells #[.int .i64 x1, .int .i64 x2, .int .i64 x3] 49))
    have hsz : w.heap.size + 1 + 1 ≤ (((w.alloc (.cells #[.slice A n c, .slice B m k] 25)).alloc (.cells #[.int .i64 x1, .int .i64 x2, .int .i64 x3] 49))).heap.size := by simp
    obtain ⟨W0, gW0⟩ : ∃ z, ((w.alloc (.cells #[.slice A n c, .slice B m k] 25)).alloc (.cells #[.int .i64 x1, .int .i64 x2, .int .i64 x3] 49)) = z := ⟨_, rfl⟩
    rw [gW0] at hx0 hx1 hbl hsz
    obtain ⟨b1, gb1⟩ : ∃ z, w.heap.size + 1 = z := ⟨_, rfl⟩
    rw [gb1] at hx1
    obtain ⟨b0, gb0⟩ : ∃ z, w.heap.size = z := ⟨_, rfl⟩
    rw [gb0] at hx0
    have HX0 := Lib.hid hx0
    have HX1 := Lib.hid hx1
    have HB0 := Lib.hid hbl
    have HS0 := Lib.hid hsz
    have Gb0 := Lib.hid gb0
    have Lb0 : RowKit.Hid (w.heap.size ≤ b0) := Lib.hid (by omega)
    have Gb1 := Lib.hid gb1
    have Lb1 : RowKit.Hid (w.heap.size ≤ b1) := Lib.hid (by omega)
    have N01 : RowKit.Hid (b0 ≠ b1) := Lib.hid (by omega)
    rw [gW0, gb1, gb0]
    clear gW0 hbl hsz hx0 hx1 gb0 gb1
    have HD1 := Lib.hid (HX0.out.al (.cells #[] 49))
    have HX1 := Lib.hid (HX1.out.al (.cells #[] 49))
    have HO1 : RowKit.Hid (Ow w (b1 + 1) 49 3 (.slice (some ⟨W0.heap.size, 0, none⟩) 0 0) 0 [] (W0.alloc (.cells #[] 49))) := Lib.hid (Ow.new_ (cs := #[]) HB0.out (by have := Lb1.out; omega) (by have := HX1.out.lt; simp at this; have := HS0.out; have := Gb1.out; omega) (by unfold maxLen; omega) rfl)
    have c0 := HD1.out.cell (i := 0) rfl
    have c1 := HD1.out.cell (i := 1) rfl
    have d0 := HX1.out.cell (i := 0) rfl
    have d1 := HX1.out.cell (i := 1) rfl
    have d2 := HX1.out.cell (i := 2) rfl
    go_wp2_with fail
    refine (HPx.out _ (HDa.out.bl HO1.out.below)).mono ?_
    rintro e w2 ⟨rfl, hb2⟩
    have HD2 := Lib.hid (HD1.out.bl hb2)
    have HX2 := Lib.hid (HX1.out.bl hb2)
    have HO2 := Lib.hid (HO1.out.up hb2)
    clear c0 c1 d0 d1 d2 HD1 HX1 HO1 HX0 HB0
    go_wp2
    go_ret
    exact ⟨_, _, rfl, own_base (HO2.out.up (below1 _ _)).own (by have := Lb1.out; omega), (HO2.out.up (below1 _ _)).below⟩
end Go.Proofs.YtahbfdhjgnlmdaaGreat

/- The document's Same and Faces. -/
namespace Go.Proofs.YtahbfdhjgnlmdaaGreat
open Go.RowKit
set_option linter.unusedSimpArgs false
set_option linter.unusedVariables false

end Go.Proofs.YtahbfdhjgnlmdaaGreat

/- The document's Faces. -/
namespace Go.Proofs.YtahbfdhjgnlmdaaGreat
open Go.RowKit
set_option linter.unusedSimpArgs false
set_option linter.unusedVariables false


/-- Rows of one's own that do not touch each other: one that grows (T), one that is read (L), rows of rows (X). -/
structure PR (w : World) (lo : Nat) (At : Option Addr) (ct : Nat) (T : List D) (Al : Option Addr) (cl : Nat) (L : List D) (Ao : Option Addr) (co : Nat) (X : List (Rw D)) (W : World) : Prop where
  ow : Ow w lo 49 3 (.slice At T.length ct) T.length (dartsV T) W
  l : W.ownsRow lo 49 3 (.slice Al L.length cl) L.length (dartsV L)
  r : RowsIn W lo 45 49 3 encD Ao X.length co X
  nl : ∀ g, (Value.slice Al L.length cl).ownBlock = some g → (Value.slice At T.length ct).ownBlock ≠ some g
  nx : ∀ x ∈ X, ∀ g, (rwV x).ownBlock = some g → (Value.slice At T.length ct).ownBlock ≠ some g
section
variable {w W W' : World} {lo : Nat} {At : Option Addr} {ct : Nat} {T : List D} {Al : Option Addr} {cl : Nat} {L : List D} {Ao : Option Addr} {co : Nat} {X : List (Rw D)}
theorem PR.up (h : PR w lo At ct T Al cl L Ao co X W) (hb : Below W.heap.size W W') : PR w lo At ct T Al cl L Ao co X W' :=
  ⟨h.ow.up hb, own_up h.l hb, h.r.up hb, h.nl, h.nx⟩
theorem PR.bl (h : PR w lo At ct T Al cl L Ao co X W) (hb : Below W.heap.size W W') : PR w lo At ct T Al cl L Ao co X W' := h.up hb
theorem PR.al (h : PR w lo At ct T Al cl L Ao co X W) (o : Obj) : PR w lo At ct T Al cl L Ao co X (W.alloc o) := h.up (below1 W o)
theorem PR.dr (h : PR w lo At ct T Al cl L Ao co X W) : PR w lo At ct T Al cl L Ao co X W.drew := h.up ((Below.refl _ _).drew)
/-- A row more among the rows. -/
theorem PR.out (h : PR w lo At ct T Al cl L Ao co X W) (A9 : Option Addr) (c9 : Nat) (F : List D) (hf : W.ownsRow lo 49 3 (.slice A9 F.length c9) F.length (dartsV F)) (hd : ∀ y ∈ X, ∀ a b, y.1 = some a → A9 = some b → a.block ≠ b.block)
    (ht : ∀ g, (Value.slice A9 F.length c9).ownBlock = some g → (Value.slice At T.length ct).ownBlock ≠ some g) (hn : X.length ≤ 1000000) (A1 : Option Addr) (c1 : Nat) (hr : RdS W W.heap.size 1 A1 1 c1 [.slice A9 F.length c9]) :
    ∃ A' c' W', (Builtin.append_ #[97, 97] 97 #[.slice Ao X.length co, .slice A1 1 c1]).run Tryz.prog W = .ok (.slice A' (X.length + 1) c') W' ∧ PR w lo At ct T Al cl L A' c' (X ++ [(A9, c9, F)]) W' ∧ Below lo W W' := by
  obtain ⟨iR, hiR, hr0, hr1, hr2⟩ := info_partsD info_rowD
  obtain ⟨A', c', W2, hrun, hR, hb, hg⟩ := h.r.push (P := Tryz.prog) ((A9, c9, F) : Rw D) (by rw [rowsD]; exact hf) hd 97 97 iR _ Tryz.underlying97 hiR hr0 hr1 hr2 rfl (by decide) hn h.ow.hi A1 c1 hr
  have hk : ∀ {v : Value} {n : Nat} {xs : List Value}, W.ownsRow lo 49 3 v n xs → W2.ownsRow lo 49 3 v n xs := fun {v n xs} ho => ho.kept hg (by
    cases hv : v.ownBlock with
    | none => exact .inl rfl
    | some g => exact .inr fun q => own_two h.r.row ho (by decide) q.symm hv)
  have hlo : ∀ k, (Value.slice Ao X.length co).ownBlock = some k → lo ≤ k := fun k hk => (h.r.row.lt k hk).1
  refine ⟨A', c', W2, hrun, ⟨⟨hk h.ow.own, h.ow.below.grown hg h.ow.below.size (fun k e => Nat.le_trans h.ow.lo (hlo k e)), h.ow.lo, Nat.le_trans h.ow.hi hg.size⟩, hk h.l, ?_, h.nl, fun x hx => ?_⟩, hb⟩
  · rw [List.length_append]
    exact hR
  · rcases List.mem_append.1 hx with hx | hx
    · exact h.nx x hx
    · obtain rfl := List.mem_singleton.1 hx
      exact ht
/-- A row of the rows is told. -/
theorem PR.tell (h : PR w lo At ct T Al cl L Ao co X W) {A9 : Option Addr} {c9 : Nat} {F : List D} (hx : (A9, c9, F) ∈ X) (hn : T.length + F.length ≤ 1000000) :
    ∃ A' c' W', (Builtin.append_ #[45, 45] 45 #[.slice At T.length ct, .slice A9 F.length c9]).run Tryz.prog W = .ok (.slice A' (T ++ F).length c') W' ∧ PR w lo A' c' (T ++ F) Al cl L Ao co X W' ∧ Below lo W W' := by
  obtain ⟨i0, hi0, hz0, hz1, hz2⟩ := info_partsD info_dartD
  have hr : RdS W W.heap.size 3 A9 F.length c9 (dartsV F) := by
    have := own_rds (h.r.one _ hx)
    rw [rowsD] at this
    exact this
  obtain ⟨v, W2, hrun, how, hb, hg, ho⟩ := Ow.app2 (P := Tryz.prog) 45 45 49 i0 _ 3 24 lo Tryz.underlying45 hi0 hz0 hz1 hz2 rfl (by decide) _ T.length _ h.ow _ A9 F.length c9 (dartsV F) hr (dartsV_one F) (by unfold maxLen; omega) (by omega)
  rw [← dartsV_app, ← List.length_append] at how
  obtain ⟨A', c', rfl, -⟩ := how.rds
  have hll : ∀ {u : Value} {n : Nat} {xs : List Value}, W.ownsRow lo 49 3 u n xs → (∀ g, u.ownBlock = some g → (Value.slice At T.length ct).ownBlock ≠ some g) → ∀ g, u.ownBlock = some g → (Value.slice A' (T ++ F).length c').ownBlock ≠ some g := fun {u n xs} hu hne g hg2 q => by
    rcases ho with e | e
    · exact hne g hg2 (e ▸ q)
    · rw [e] at q
      have := (hu.lt g hg2).2
      have := Option.some.inj q
      omega
  refine ⟨A', c', W2, hrun, ⟨how, h.l.kept hg ?_, h.r.far hg (fun g e q => own_two h.r.row h.ow.own (by decide) q e) (fun x hx g e q => h.nx x hx g q e), hll h.l h.nl, fun x hx => hll (h.r.one x hx) (h.nx x hx)⟩, hb⟩
  cases hv : (Value.slice Al L.length cl).ownBlock with
  | none => exact .inl rfl
  | some g => exact .inr fun q => h.nl g hv q.symm
end
structure OwnR (lo : Nat) (A9 : Option Addr) (c9 : Nat) (F : List D) (W : World) : Prop where
  own : W.ownsRow lo 49 3 (.slice A9 F.length c9) F.length (dartsV F)
theorem OwnR.bl {lo : Nat} {A9 : Option Addr} {c9 : Nat} {F : List D} {W W' : World} (h : OwnR lo A9 c9 F W) (hb : Below W.heap.size W W') : OwnR lo A9 c9 F W' := ⟨own_up h.own hb⟩
set_option maxRecDepth 100000 in
set_option maxHeartbeats 4000000 in
theorem rfaces_any (A : Option Addr) (n c : Nat) (Vs : List VC) (B : Option Addr) (m k : Nat) (Es : List EC) (w : World) (h : DgIn w A n c Vs B m k Es) (hf : Formed Vs Es) :
    Calls Tryz.prog 64 #[.agg #[.slice A n c, .slice B m k]] w fun e w' => ∃ A' c' X, e = .returned (.slice A' X.length c') ∧ RowsIn w' (w.heap.size + 1) 45 49 3 encD A' X.length c' X ∧ X.map (·.2.2) = orbsF (phF Vs) 80 (dsE Es) [] ∧ Below w.heap.size w w' := by
  have HDa := Lib.hid h
  have HFm := Lib.hid hf
  have hm : m ≤ 40 := (hf.small h).2.1
  have hme : Es.length = m := h.e.rlen eC_len (by decide)
  have HDs := Lib.hid (fun W (h : DgIn W A n c Vs B m k Es) => rdarts5_any A n c Vs B m k Es W h (by omega))
  have HTr : RowKit.Hid (∀ y1 y2 y3 : Int, (y1, y2, y3) ∈ ringsOf Vs → ∀ W, DgIn W A n c Vs B m k Es → Calls Tryz.prog 83 #[.agg #[.slice A n c, .slice B m k], .agg #[.int .i64 y1, .int .i64 y2, .int .i64 y3]] W fun e w' => ∃ A' c', e = .returned (.slice A' (orbT (phF Vs) (y1, y2, y3) 80 (y1, y2, y3)).length c') ∧ w'.ownsRow W.heap.size 49 3 (.slice A' (orbT (phF Vs) (y1, y2, y3) 80 (y1, y2, y3)).length c') (orbT (phF Vs) (y1, y2, y3) 80 (y1, y2, y3)).length (dartsV (orbT (phF Vs) (y1, y2, y3) 80 (y1, y2, y3))) ∧ (orbT (phF Vs) (y1, y2, y3) 80 (y1, y2, y3)).length ≤ 80 ∧ Below W.heap.size W w') := Lib.hid (fun y1 y2 y3 hy W h => by
    obtain ⟨e, _, _, q⟩ := (hf.mem _).1 hy
    have h1 := rtrace_any A n c Vs B m k Es y1 y2 y3 W h hf (by simp only at q; omega)
    have e1 : faceD Vs (y1, y2, y3) = orbT (phF Vs) (y1, y2, y3) 80 (y1, y2, y3) := by rw [faceD, if_pos hy]
    have h8 := faceD_len hf (y1, y2, y3)
    rw [e1] at h1 h8
    refine h1.mono ?_
    rintro e w' ⟨A', c', r1, r2, r3⟩
    exact ⟨A', c', r1, r2, h8, r3⟩)
  have hds := hf.ds
  have hdl := dsE_len Es
  obtain ⟨L, gL⟩ : ∃ z, dsE Es = z := ⟨_, rfl⟩
  rw [gL] at HDs hds hdl ⊢
  rw [hme] at hdl
  rw [← hdl] at HDs
  have hl80 : L.length ≤ 80 := by omega
  have HLm := Lib.hid hds
  clear h hf gL hds hdl hme hm
  go_enter Tryz.func64, Tryz.ntmps64
  go_upto_region 1 with fail
  have hx0 : Whole (w.alloc (.cells #[.slice A n c, .slice B m k] 25)) (w.heap.size) 25 [.slice A n c, .slice B m k] := (Whole.new_ w 25 [.slice A n c, .slice B m k])
  have hbl : Below w.heap.size w (w.alloc (.cells #[.slice A n c, .slice B m k] 25)) := (below1 w (.cells #[.slice A n c, .slice B m k] 25))
  have hsz : w.heap.size + 1 ≤ ((w.alloc (.cells #[.slice A n c, .slice B m k] 25))).heap.size := by simp
  obtain ⟨W0, gW0⟩ : ∃ z, (w.alloc (.cells #[.slice A n c, .slice B m k] 25)) = z := ⟨_, rfl⟩
  rw [gW0] at hx0 hbl hsz
  obtain ⟨b0, gb0⟩ : ∃ z, w.heap.size = z := ⟨_, rfl⟩
  rw [gb0] at hx0
  have HX0 := Lib.hid hx0
  have HB0 := Lib.hid hbl
  have HS0 := Lib.hid hsz
  have Gb0 := Lib.hid gb0
  have Lb0 : RowKit.Hid (w.heap.size ≤ b0) := Lib.hid (by omega)
  rw [gW0, gb0]
  clear gW0 hbl hsz hx0 gb0
  have c0 := (HX0.out.al (.cells #[] 45)).al (.cells #[] 49) |>.cell (i := 0) rfl
  have c1 := (HX0.out.al (.cells #[] 45)).al (.cells #[] 49) |>.cell (i := 1) rfl
  have HB1 := Lib.hid (bel_al (bel_al HB0.out (.cells #[] 45)) (.cells #[] 49))
  have HX1 := Lib.hid ((HX0.out.al (.cells #[] 45)).al (.cells #[] 49))
  have HO1 : RowKit.Hid (Ow w (b0 + 1) 49 3 (.slice (some ⟨W0.heap.size + 1, 0, none⟩) 0 0) 0 [] ((W0.alloc (.cells #[] 45)).alloc (.cells #[] 49))) := Lib.hid (by
    have h1 := Ow.new_ (W := W0.alloc (.cells #[] 45)) (cs := #[]) (e := 49) (size := 3) (n := 0) (B := b0 + 1) (bel_al HB0.out (.cells #[] 45)) (by have := Lb0.out; omega) (by have := HX0.out.lt; simp; omega) (by unfold maxLen; omega) rfl
    rw [World.size_alloc] at h1
    exact h1)
  have HR1 : RowKit.Hid (RowsIn ((W0.alloc (.cells #[] 45)).alloc (.cells #[] 49)) (b0 + 1) 45 49 3 encD (some ⟨W0.heap.size, 0, none⟩) 0 0 []) := Lib.hid ⟨own_up (World.ownsRow_made W0 #[] 0 HX0.out.lt (Nat.zero_le _) (by simp)) (below1 _ _), rfl, fun x hx => (by cases hx), fun i j x y a b _ h => (by simp at h)⟩
  go_wp2_with fail
  refine (HDs.out _ (HDa.out.bl HB1.out)).mono ?_
  rintro e w3 ⟨Al, cl, rfl, hol, hb3⟩
  have hsz : w.heap.size ≤ b0 := Lb0.out
  have HP3 : RowKit.Hid (PR w (b0 + 1) (some ⟨W0.heap.size + 1, 0, none⟩) 0 [] Al cl L (some ⟨W0.heap.size, 0, none⟩) 0 [] w3) := Lib.hid ⟨HO1.out.up hb3, own_base hol (by have := HX1.out.lt; omega), HR1.out.up hb3, fun g e q => by
    have h1 := (hol.lt g e).1
    have h2 : W0.heap.size + 1 = g := Option.some.inj q
    simp at h1 h2
    omega, fun x hx => (by cases hx)⟩
  have HX3 := Lib.hid (HX1.out.bl hb3)
  clear c0 c1 HX0 HB0 HB1 HX1 HO1 HR1 hol hb3 hsz HDs
  obtain ⟨A0, gA0⟩ : ∃ z, some (⟨W0.heap.size, 0, none⟩ : Addr) = z := ⟨_, rfl⟩
  obtain ⟨T0, gT0⟩ : ∃ z, some (⟨W0.heap.size + 1, 0, none⟩ : Addr) = z := ⟨_, rfl⟩
  rw [gA0, gT0] at HP3
  rw [gA0, gT0]
  clear gA0 gT0
  go_wp2
  go_loopw [3, 4, 6] (fun so st si wr => ∃ (i : Nat) (Ao : Option Addr) (co : Nat) (At : Option Addr) (ct : Nat) (T : List D) (X : List (Rw D)), i ≤ L.length ∧ si = .int .i64 i ∧ so = .slice Ao X.length co ∧ st = .slice At T.length ct ∧ RowKit.Hid (Whole wr b0 25 [.slice A n c, .slice B m k]) ∧ RowKit.Hid (PR w (b0 + 1) At ct T Al cl L Ao co X wr) ∧ RowKit.Hid (orbsF (phF Vs) 80 L [] = X.map (·.2.2) ++ orbsF (phF Vs) 80 (L.drop i) T) ∧ RowKit.Hid (X.length ≤ i ∧ T.length ≤ i * 80)) (fun _ _ si _ => L.length - (intOf si).toNat)
  case atStart => exact ⟨0, A0, 0, T0, 0, [], [], by omega, rfl, rfl, rfl, HX3, HP3, Lib.hid rfl, Lib.hid ⟨Nat.zero_le _, Nat.zero_le _⟩⟩
  case round =>
    clear HX3 HP3
    obtain ⟨i, Ao, co, At, ct, T, X, hi, rfl, rfl, rfl, HX, HP, HI, Hn⟩ := hrel
    obtain ⟨wo, gwo⟩ : ∃ z, wr = z := ⟨_, rfl⟩
    rw [gwo] at HX HP ⊢
    clear gwo
    by_cases hin : i < L.length
    · obtain ⟨bd, of2, rfl, hbd, hc⟩ := (own_rds HP.out.l).darts (by omega)
      obtain ⟨d1, d2, d3⟩ := hc i hin
      have hdr : L.drop i = L.getD i (0, 0, 0) :: L.drop (i + 1) := by
        rw [List.drop_eq_getElem_cons hin, List.getD_eq_getElem?_getD, List.getElem?_eq_getElem hin]
        rfl
      have hxr : L.getD i (0, 0, 0) ∈ ringsOf Vs := (HLm.out _).1 (by rw [List.getD_eq_getElem?_getD, List.getElem?_eq_getElem hin]; exact List.getElem_mem hin)
      obtain ⟨x, gx⟩ : ∃ v, L.getD i (0, 0, 0) = v := ⟨_, rfl⟩
      rw [gx] at d1 d2 d3 hdr hxr
      obtain ⟨x1, x2, x3⟩ := x
      have hI := HI.out
      rw [hdr, orbsF] at hI
      obtain ⟨hXi, hTi⟩ := Hn.out
      have HIx : RowKit.Hid (∀ W, RdS W W.heap.size 3 At T.length ct (dartsV T) → Calls Tryz.prog 82 #[.slice At T.length ct, .agg #[.int .i64 x1, .int .i64 x2, .int .i64 x3]] W fun e w' => e = .returned (.int .i64 (idxD T (x1, x2, x3))) ∧ Below W.heap.size W w') := Lib.hid (fun W h => rfindex_any At T.length ct T (x1, x2, x3) W h (by omega))
      by_cases hxT : (x1, x2, x3) ∈ T
      · rw [if_pos hxT] at hI
        obtain ⟨e1, e2⟩ := idxD_mem hxT
        rw [e1] at HIx
        have ht : decide ((0 : Int) ≤ ((T.idxOf (x1, x2, x3) : Nat) : Int)) = true := decide_eq_true (by omega)
        obtain ⟨q, gq⟩ : ∃ z, T.idxOf (x1, x2, x3) = z := ⟨_, rfl⟩
        rw [gq] at HIx ht
        have HI2 := Lib.hid hI
        clear hI HI hdr gx hc hbd e1 e2 gq hxT
        go_wp2_with (first
          | (go_at_call 82; refine (HIx.out _ (own_rds HP.out.ow.own)).mono ?_; rintro e w5 ⟨rfl, hb5⟩
             have HP5 := Lib.hid (HP.out.bl hb5)
             have HX5 := Lib.hid (HX.out.bl hb5)
             clear hb5 d1 d2 d3 HP HX))
        go_roundw
        case rel => exact ⟨i + 1, Ao, co, At, ct, T, X, by omega, by go_num, rfl, rfl, HX5, HP5, HI2, Lib.hid ⟨by omega, by omega⟩⟩
        case measure => simp [intOf]; omega
      · rw [if_neg hxT] at hI
        rw [idxD_no hxT] at HIx
        have ht : decide ((0 : Int) ≤ (-1 : Int)) = false := by decide
        have HTx := Lib.hid (HTr.out x1 x2 x3 hxr)
        obtain ⟨F, gF⟩ : ∃ z, orbT (phF Vs) (x1, x2, x3) 80 (x1, x2, x3) = z := ⟨_, rfl⟩
        rw [gF] at HTx hI
        have HI2 := Lib.hid hI
        have HCx : RowKit.Hid (∀ W, Below wo.heap.size wo W → W.cell? ⟨bd, of2 + i * 3, none⟩ = some (.int .i64 x1) ∧ W.cell? ⟨bd, of2 + i * 3 + 1, none⟩ = some (.int .i64 x2) ∧ W.cell? ⟨bd, of2 + i * 3 + 2, none⟩ = some (.int .i64 x3)) := Lib.hid (fun W hb => ⟨(hb.cell (p := ⟨bd, of2 + i * 3, none⟩) hbd).trans d1, (hb.cell (p := ⟨bd, of2 + i * 3 + 1, none⟩) hbd).trans d2, (hb.cell (p := ⟨bd, of2 + i * 3 + 2, none⟩) hbd).trans d3⟩)
        clear hI HI hdr gx hc hbd gF hxT hxr
        go_upto_region 8 with (first
          | (go_at_call 82; refine (HIx.out _ (own_rds HP.out.ow.own)).mono ?_; rintro e w5 ⟨rfl, hb5⟩
             have HP5 := Lib.hid (HP.out.bl hb5)
             have HX5 := Lib.hid (HX.out.bl hb5)
             have HB5 : RowKit.Hid (Below wo.heap.size wo w5) := Lib.hid hb5
             clear hb5 d1 d2 d3 HP HX ht))
        have D0_911 := Lib.hid (HX5.out.dr)
        have P_911 := Lib.hid (HP5.out.dr)
        have Bel_911 := Lib.hid (bel_dr HB5.out)
        have ld912 : ∀ w', Kept Nil_ w5.drew w' → w'.cell? ⟨b0, 0, none⟩ = some (.slice A n c) := fun w' h => h.nil_cell (D0_911.out.cell (i := 0) rfl)
        have ld913 : ∀ w', Kept Nil_ w5.drew w' → w'.cell? ⟨b0, 1, none⟩ = some (.slice B m k) := fun w' h => h.nil_cell (D0_911.out.cell (i := 1) rfl)
        have ld914 : ∀ w', Kept Nil_ w5.drew w' → w'.cell? ⟨bd, of2 + i * 3, none⟩ = some (.int .i64 x1) := fun w' h => h.nil_cell ((HCx.out _ Bel_911.out).1)
        have ld915 : ∀ w', Kept Nil_ w5.drew w' → w'.cell? ⟨bd, of2 + i * 3 + 1, none⟩ = some (.int .i64 x2) := fun w' h => h.nil_cell ((HCx.out _ Bel_911.out).2.1)
        have ld916 : ∀ w', Kept Nil_ w5.drew w' → w'.cell? ⟨bd, of2 + i * 3 + 2, none⟩ = some (.int .i64 x3) := fun w' h => h.nil_cell ((HCx.out _ Bel_911.out).2.2)
        refine wp_region_reg Nil_ (by kernel_rfl) ?_
        apply wpR_next 0 (some 25)
        · simp only [List.getElem?_toArray, List.getElem?_cons_succ, List.getElem?_cons_zero]; exact rfl
        · rfl
        · kernel_rfl
        · kernel_rfl
        · kernel_rfl
        · exact fun _ _ _ _ h => h
        apply Exists.intro
        apply And.intro
        · apply yr_run; rfl; intro w' hw'; go_simp; (try with_reducible rfl)
        simp only [Act.put, List.setIfInBounds_toArray, List.set_cons_zero, List.set_cons_succ]
        apply wpR_next 1 (some 26)
        · simp only [List.getElem?_toArray, List.getElem?_cons_succ, List.getElem?_cons_zero]; exact rfl
        · rfl
        · kernel_rfl
        · kernel_rfl
        · kernel_rfl
        · exact fun _ _ _ _ h => h
        apply Exists.intro
        apply And.intro
        · apply yr_run; rfl; intro w' hw'; go_simp; (try with_reducible rfl)
        simp only [Act.put, List.setIfInBounds_toArray, List.set_cons_zero, List.set_cons_succ]
        apply wpR_next 2 (some 27)
        · simp only [List.getElem?_toArray, List.getElem?_cons_succ, List.getElem?_cons_zero]; exact rfl
        · rfl
        · kernel_rfl
        · kernel_rfl
        · kernel_rfl
        · exact fun _ _ _ _ h => h
        apply Exists.intro
        apply And.intro
        · apply yr_run; rfl; intro w' hw'; go_simp; (try with_reducible rfl)
        simp only [Act.put, List.setIfInBounds_toArray, List.set_cons_zero, List.set_cons_succ]
        apply wpR_next 3 (some 28)
        · simp only [List.getElem?_toArray, List.getElem?_cons_succ, List.getElem?_cons_zero]; exact rfl
        · rfl
        · kernel_rfl
        · kernel_rfl
        · kernel_rfl
        · exact fun _ _ _ _ h => h
        apply Exists.intro
        apply And.intro
        · apply yr_run; rfl; intro w' hw'; go_simp; (try with_reducible rfl)
        simp only [Act.put, List.setIfInBounds_toArray, List.set_cons_zero, List.set_cons_succ]
        apply wpR_next 4 (some 29)
        · simp only [List.getElem?_toArray, List.getElem?_cons_succ, List.getElem?_cons_zero]; exact rfl
        · rfl
        · kernel_rfl
        · kernel_rfl
        · kernel_rfl
        · exact fun _ _ _ _ h => h
        apply Exists.intro
        apply And.intro
        · apply yr_run; rfl; intro w' hw'; go_simp; (try with_reducible rfl)
        simp only [Act.put, List.setIfInBounds_toArray, List.set_cons_zero, List.set_cons_succ]
        apply wpR_call 5 (some 30)
        · simp only [List.getElem?_toArray, List.getElem?_cons_succ, List.getElem?_cons_zero]; exact rfl
        · rfl
        · kernel_rfl
        · rfl
        · intro w'; go_simp; first | done | exact ⟨rfl, rfl⟩ | with_reducible rfl
        intro w' hw'
        refine (HTx.out _ (HDa.out.bl (P_911.out.bl hw').ow.below)).mono ?_
        rintro e w917 ⟨A9, c9, rfl, ho9, hl9, hb917⟩
        have Hl9 := Lib.hid hl9
        have hF : OwnR (b0 + 1) A9 c9 F w917 := ⟨own_base ho9 (by have := (D0_911.out.bl hw').lt; omega)⟩
        have HNt : RowKit.Hid (∀ g, (Value.slice A9 F.length c9).ownBlock = some g → (Value.slice At T.length ct).ownBlock ≠ some g) := Lib.hid (fun g e q => by
          have h1 := (ho9.lt g e).1
          have h2 := ((P_911.out.bl hw').ow.own.lt g q).2
          omega)
        have HNx : RowKit.Hid (∀ y ∈ X, ∀ a b : Addr, y.1 = some a → A9 = some b → a.block ≠ b.block) := Lib.hid (fun y hy a b ha hb q => by
          have h1 := (ho9.lt b.block (by rw [hb]; rfl)).1
          have h2 := (((P_911.out.bl hw').r.one y hy).lt a.block (by rw [rw_block, ha]; rfl)).2
          omega)
        clear ho9 hl9
        have D0_917 := Lib.hid ((D0_911.out.bl hw').bl hb917)
        have P_917 := Lib.hid ((P_911.out.bl hw').bl hb917)
        have Bel_917 := Lib.hid (bel_bl (bel_bl Bel_911.out hw') hb917)
        have ld918 := fun w'' (h : Kept Nil_ w917 w'') => ld912 w'' ((Kept.of_ext hw').trans ((Kept.of_below hb917).trans h))
        have ld919 := fun w'' (h : Kept Nil_ w917 w'') => ld913 w'' ((Kept.of_ext hw').trans ((Kept.of_below hb917).trans h))
        have ld920 := fun w'' (h : Kept Nil_ w917 w'') => ld914 w'' ((Kept.of_ext hw').trans ((Kept.of_below hb917).trans h))
        have ld921 := fun w'' (h : Kept Nil_ w917 w'') => ld915 w'' ((Kept.of_ext hw').trans ((Kept.of_below hb917).trans h))
        have ld922 := fun w'' (h : Kept Nil_ w917 w'') => ld916 w'' ((Kept.of_ext hw').trans ((Kept.of_below hb917).trans h))
        refine ⟨_, rfl, Kept.of_below hb917, ?_⟩
        clear hw' hb917
        have F_917 := Lib.hid hF
        clear hF
        simp only [Act.put, List.setIfInBounds_toArray, List.set_cons_zero, List.set_cons_succ]
        apply wpR_next 6 (some 7)
        · simp only [List.getElem?_toArray, List.getElem?_cons_succ, List.getElem?_cons_zero]; exact rfl
        · rfl
        · kernel_rfl
        · kernel_rfl
        · kernel_rfl
        · exact fun _ _ _ _ h => h
        apply Exists.intro
        apply And.intro
        · apply yr_run; rfl; intro w' hw'; go_simp; (try with_reducible rfl)
        simp only [Act.put, List.setIfInBounds_toArray, List.set_cons_zero, List.set_cons_succ]
        refine wpR_done (by kernel_rfl) ?_ _
        intro w923 hw'
        have D0_924 := Lib.hid (D0_917.out.bl hw')
        have P_924 := Lib.hid (P_917.out.bl hw')
        have F_924 := Lib.hid (F_917.out.bl hw')
        have Bel_924 := Lib.hid (bel_bl Bel_917.out hw')
        clear D0_917 P_917 F_917 Bel_917
        clear hw'
        go_upto_region 9 with fail
        refine wp_region_lit ?_
        refine wl_read (v := ?_) (some 31) rfl (by rfl) ?_ ?_
        rotate_left
        · go_simp; (try with_reducible rfl)
        simp only [Act.put, List.setIfInBounds_toArray, List.set_cons_zero, List.set_cons_succ]
        refine wl_read (v := ?_) (some 32) rfl (by rfl) ?_ ?_
        rotate_left
        · go_simp; (try with_reducible rfl)
        simp only [Act.put, List.setIfInBounds_toArray, List.set_cons_zero, List.set_cons_succ]
        refine wl_buildSlice (some 33) rfl (by rfl) 97 45 1 #[(0, .tmp 32)] (by rfl) Tryz.underlying97 #[.slice A9 F.length c9] (by kernel_rfl) ?_
        simp only [Act.put, List.setIfInBounds_toArray, List.set_cons_zero, List.set_cons_succ]
        have HLs : RowKit.Hid (RdS (w923.alloc (.cells #[.slice A9 F.length c9] 45)) (w923.alloc (.cells #[.slice A9 F.length c9] 45)).heap.size 1 (some ⟨w923.heap.size, 0, none⟩) 1 1 [.slice A9 F.length c9]) := Lib.hid (RdS.of_whole (cs := [.slice A9 F.length c9]) (Whole.new_ _ _ _) rfl)
        obtain ⟨A7, c7, w7, hrun, hp7, hb7⟩ := (P_924.out.al (.cells #[.slice A9 F.length c9] 45)).out A9 c9 F (own_up F_924.out.own (below1 _ _)) HNx.out HNt.out (by omega) _ _ HLs.out
        refine wl_run (some 34) rfl (by rfl) (exec_append (by rfl) (by rfl) (by rfl) hrun) ?_
        simp only [Act.put, List.setIfInBounds_toArray, List.set_cons_zero, List.set_cons_succ]
        have HX7 := Lib.hid ((D0_924.out.al (.cells #[.slice A9 F.length c9] 45)).at_ (hb7.block b0 (by omega)))
        obtain ⟨A8, c8, w8, hrun8, hp8, hb8⟩ := hp7.tell (List.mem_append.2 (.inr (List.mem_singleton.2 rfl))) (by have := Hl9.out; omega)
        have HX8 := Lib.hid (HX7.out.at_ (hb8.block b0 (by omega)))
        have HP8 : RowKit.Hid (PR w (b0 + 1) A8 c8 (T ++ F) (some ⟨bd, of2, none⟩) cl L A7 c7 (X ++ [(A9, c9, F)]) w8) := Lib.hid hp8
        have Hrun8 := Lib.hid hrun8
        have HI8 : RowKit.Hid (orbsF (phF Vs) 80 L [] = (X ++ [((A9, c9, F) : Rw D)]).map (·.2.2) ++ orbsF (phF Vs) 80 (L.drop (i + 1)) (T ++ F)) := Lib.hid (by rw [HI2.out, List.map_append]; simp)
        have Hn8 : RowKit.Hid ((X ++ [((A9, c9, F) : Rw D)]).length ≤ i + 1 ∧ (T ++ F).length ≤ (i + 1) * 80) := Lib.hid ⟨by simp; omega, by have := Hl9.out; rw [List.length_append]; omega⟩
        have hxl : (X ++ [((A9, c9, F) : Rw D)]).length = X.length + 1 := by simp
        clear hrun hp7 hb7 HX7 hrun8 hp8 hb8 HLs HNx HNt Hl9 HI2 D0_924 P_924 F_924 Bel_924
        go_upto_region 10 with fail
        go_wp2_with (first
          | (at_builtin
             refine wpList_app rfl (.tmp 35) (.tmp 36) _ rfl rfl rfl Hrun8.out ?_
             clear Hrun8))
        go_roundw
        case rel => exact ⟨i + 1, A7, c7, A8, c8, T ++ F, _, by omega, by go_num, by rw [hxl], by rw [List.length_append], HX8, HP8, HI8, Hn8⟩
        case measure => simp [intOf]; omega
    · obtain rfl : L.length = i := by omega
      have hI := HI.out
      rw [List.drop_length] at hI
      have HI2 : RowKit.Hid (orbsF (phF Vs) 80 L [] = X.map (·.2.2)) := Lib.hid (by rw [hI]; simp [orbsF])
      clear hI HI
      go_wp2
      go_ret
      exact ⟨Ao, co, X, rfl, by have := Gb0.out; rw [this]; exact HP.out.r, HI2.out.symm, HP.out.ow.below⟩
end Go.Proofs.YtahbfdhjgnlmdaaGreat

/- Faces of a diagram that is well formed; and the document's examples. -/
namespace Go.Proofs.YtahbfdhjgnlmdaaGreat
open Go.RowKit
set_option linter.unusedSimpArgs false
set_option linter.unusedVariables false


structure PreF (n : Nat) (Vs : List VC) : Prop where
  n : n ≤ 1000000
  r : ∀ x ∈ Vs, x.2.1.2.1 ≤ 1000000
  s : ∀ v ∈ Vs, ∀ d ∈ v.2.1.2.2.2, wfS d
  k : ∀ S, KeysD (sigM Vs) S → S.length ≤ 1000000
  l : (dsV Vs).length ≤ 1000000
theorem Formed.pre {A : Option Addr} {n c : Nat} {Vs : List VC} {B : Option Addr} {m k : Nat} {Es : List EC} {w : World} (hf : Formed Vs Es) (h : DgIn w A n c Vs B m k Es) (hg : GoodD Vs Es) : PreF n Vs := by
  have h8 := hf.l80
  obtain ⟨h1, h2, h3⟩ := hf.small h
  exact ⟨by omega, fun x hx => by have := h3 x hx; omega, fun v hv d hd => hf.wfS hg (ring_mem.2 ⟨v, hv, hd⟩), fun S hS => by have := hS.formed hf hg; omega, by rw [dsV_eq]; omega⟩
theorem faces5_any (A : Option Addr) (n c : Nat) (Vs : List VC) (B : Option Addr) (m k : Nat) (Es : List EC) (w : World) (h : DgIn w A n c Vs B m k Es) (hf : Formed Vs Es) (hg : GoodD Vs Es) :
    Calls Tryz.prog 92 #[.agg #[.slice A n c, .slice B m k]] w fun e w' => ∃ A' c' X, e = .returned (.slice A' X.length c') ∧ RowsIn w' (w.heap.size + 1) 45 49 3 encD A' X.length c' X ∧ X.map (·.2.2) = orbsF (phF Vs) 80 (dsE Es) [] ∧ Below w.heap.size w w' := by
  have hp := hf.pre h hg
  refine (faces_any A n c Vs B m k Es w h hp.n hp.r hp.s hp.k hp.l).mono ?_
  rintro e w' ⟨S, A', c', X, hS, rfl, hR, hX, hb⟩
  rw [sort_darts hf, facesF_eq hf (by rw [hS.formed hf hg]; exact Nat.le_refl _) _ _ (fun x hx => (hf.ds x).1 hx)] at hX
  exact ⟨A', c', X, rfl, hR, hX, hb⟩
end Go.Proofs.YtahbfdhjgnlmdaaGreat

/- How many vertices, edges, faces and parts there are; the genus. -/
namespace Go.Proofs.YtahbfdhjgnlmdaaGreat
open Go.RowKit
set_option linter.unusedSimpArgs false
set_option linter.unusedVariables false


def alB (v : VC) : Bool := decide (v.2.1.2.2.2 = [])
theorem alone_next {Vs : List VC} {j : Nat} {v : VC} (h : Vs[j]? = some v) : ((Vs.take (j + 1)).filter alB).length = ((Vs.take j).filter alB).length + if alB v then 1 else 0 := by
  rw [List.take_add_one, h, List.filter_append, List.length_append]
  congr 1
  simp only [Option.toList_some, List.filter_cons, List.filter_nil]
  split <;> rfl
theorem alone_le (Vs : List VC) : aloneN Vs ≤ Vs.length := List.length_filter_le _ _
theorem alB_len {v : VC} {rn : Nat} (h : v.2.1.2.2.2.length = rn) : ((rn : Int) == 0) = alB v := by
  unfold alB
  cases hR : v.2.1.2.2.2 with
  | nil => rw [hR] at h; subst h; rfl
  | cons a r =>
    rw [hR, List.length_cons] at h
    subst h
    simp
    omega
set_option maxRecDepth 100000 in
set_option maxHeartbeats 4000000 in
theorem cnt1 (v : VC) (w : World) (hr : v.2.1.2.2.2.length = v.2.1.2.1) : Calls Tryz.prog 91 #[.agg (vC v).toArray] w fun e w' => e = .returned (.bool (alB v)) ∧ Below w.heap.size w w' := by
  have hb := alB_len hr
  obtain ⟨b, gb⟩ : ∃ z, alB v = z := ⟨_, rfl⟩
  rw [gb] at hb ⊢
  clear gb hr
  obtain ⟨⟨i1, i2⟩, ⟨rA, rn, rc, rL⟩, lb, at_⟩ := v
  replace hb : ((rn : Int) == 0) = b := hb
  show Calls Tryz.prog 91 #[.agg #[.int .i64 i1, .int .i64 i2, .slice rA rn rc, .string lb, .int .i64 at_]] w _
  go_enter Tryz.func91, Tryz.ntmps91
  go_wp2
  exact bodyPost_ret (v := .bool b) (by simp [results, Tryz.results91, go_sem, hb]) rfl ⟨rfl, below1 _ _⟩
set_option maxRecDepth 100000 in
set_option maxHeartbeats 4000000 in
theorem ecount1 (A : Option Addr) (n c : Nat) (Vs : List VC) (w : World) (h : RdS w w.heap.size 5 A n c (rowsV vC Vs)) (hn : n ≤ 1000000) (hr : ∀ v ∈ Vs, v.2.1.2.2.2.length = v.2.1.2.1) :
    Calls Tryz.prog 90 #[.slice A n c, .func (.func 91) #[] #[]] w fun e w' => e = .returned (.int .i64 ((aloneN Vs : Nat) : Int)) ∧ Below w.heap.size w w' := by
  have hl := h.rlen vC_len (by decide)
  have H := Lib.hid h
  have Hl := Lib.hid hl
  have Hr := Lib.hid hr
  have HE := Lib.hid (ent_of (k := 91) Tryz.func91 (by kernel_rfl) rfl)
  have HG : RowKit.Hid (aloneN Vs = ((Vs.take n).filter alB).length) := Lib.hid (by rw [List.take_of_length_le (by omega)]; rfl)
  obtain ⟨an, gan⟩ : ∃ z, aloneN Vs = z := ⟨_, rfl⟩
  rw [gan] at HG ⊢
  clear h hl hr gan
  go_enter Tryz.func90, Tryz.ntmps90
  go_wp2
  go_loopw [5, 10] (fun sn si wr => ∃ (j q : Nat), j ≤ n ∧ si = .int .i64 j ∧ sn = .int .i64 (q : Int) ∧ RowKit.Hid (Below w.heap.size w wr) ∧ RowKit.Hid (((Vs.take j).filter alB).length = q)) (fun _ si _ => n - (intOf si).toNat)
  case atStart => exact ⟨0, 0, by omega, rfl, rfl, Lib.hid (Below.refl _ _), Lib.hid rfl⟩
  case round =>
    obtain ⟨j, q, hj, rfl, rfl, HB, HQ⟩ := hrel
    have hqj : q ≤ j := by
      have h1 := List.length_filter_le alB (Vs.take j)
      rw [HQ.out, List.length_take] at h1
      omega
    by_cases hjn : j < n
    · obtain ⟨v, hx⟩ : ∃ v, Vs[j]? = some v := ⟨_, List.getElem?_eq_getElem (by have := Hl.out; omega)⟩
      have hnx := alone_next hx
      rw [HQ.out] at hnx
      have hcn := fun W => cnt1 v W (Hr.out v (List.mem_of_getElem? hx))
      obtain ⟨b, gb⟩ : ∃ z, alB v = z := ⟨_, rfl⟩
      rw [gb] at hcn hnx
      obtain ⟨bb, off, rfl, hbB, hpl⟩ := H.out.place vC_len (by decide) (by omega)
      have hbw := HB.out
      have q0 := hpl j _ hx 0 _ rfl
      have q1 := hpl j _ hx 1 _ rfl
      have q2 := hpl j _ hx 2 _ rfl
      have q3 := hpl j _ hx 3 _ rfl
      have q4 := hpl j _ hx 4 _ rfl
      simp only [Addr.add_lit, Nat.add_zero] at q0 q1 q2 q3 q4
      have l0 := (hbw.cell (p := ⟨bb, off + j * 5, none⟩) hbB).trans q0
      have l1 := (hbw.cell (p := ⟨bb, off + j * 5 + 1, none⟩) hbB).trans q1
      have l2 := (hbw.cell (p := ⟨bb, off + j * 5 + 2, none⟩) hbB).trans q2
      have l3 := (hbw.cell (p := ⟨bb, off + j * 5 + 3, none⟩) hbB).trans q3
      have l4 := (hbw.cell (p := ⟨bb, off + j * 5 + 4, none⟩) hbB).trans q4
      clear hbw q0 q1 q2 q3 q4
      obtain ⟨⟨i1, i2⟩, ⟨rA, rn, rc, rL⟩, lb, at_⟩ := v
      replace hcn : ∀ W, Calls Tryz.prog 91 #[.agg #[.int .i64 i1, .int .i64 i2, .slice rA rn rc, .string lb, .int .i64 at_]] W fun e w' => e = .returned (.bool b) ∧ Below W.heap.size W w' := hcn
      have HC := Lib.hid hcn
      have Hnx := Lib.hid hnx
      clear hx hpl hcn hbB gb hnx
      go_wp2_with fail
      refine (HC.out _).mono ?_
      rintro e w3 ⟨rfl, hb3⟩
      have HB3 : RowKit.Hid (Below w.heap.size w w3) := Lib.hid (bel_bl (bel_al HB.out (.cells #[.int .i64 i1, .int .i64 i2, .slice rA rn rc, .string lb, .int .i64 at_] 47)) hb3)
      clear hb3 l0 l1 l2 l3 l4
      cases b with
      | false =>
        go_wp2
        go_roundw
        case rel => exact ⟨j + 1, q, by omega, by go_num, rfl, HB3, Lib.hid Hnx.out⟩
        case measure => simp [intOf]; omega
      | true =>
        have hwq : IntKind.i64.wrap ((q : Int) + 1) = ((q + 1 : Nat) : Int) := by rw [IntWalk.i64_in _ (by omega)]; rfl
        go_wp2
        go_roundw
        case rel => exact ⟨j + 1, q + 1, by omega, by go_num, by go_num, HB3, Lib.hid Hnx.out⟩
        case measure => simp [intOf]; omega
    · obtain rfl : n = j := by omega
      have hq : q = an := by rw [HG.out, HQ.out]
      subst hq
      go_wp2
      go_ret
      exact ⟨rfl, HB.out⟩
end Go.Proofs.YtahbfdhjgnlmdaaGreat

/- Counts of layer 7. -/
namespace Go.Proofs.YtahbfdhjgnlmdaaGreat
open Go.RowKit
set_option linter.unusedSimpArgs false
set_option linter.unusedVariables false

set_option maxRecDepth 100000 in
set_option maxHeartbeats 4000000 in
theorem ecnt_any (A : Option Addr) (n c : Nat) (Vs : List VC) (B : Option Addr) (m k : Nat) (Es : List EC) (F C : Nat) (w : World) (h : DgIn w A n c Vs B m k Es) (hn : n ≤ 1000000) (hm : m ≤ 1000000) (hF : F ≤ 1000000) (hC : C ≤ 1000000) (HF : ∀ W, DgIn W A n c Vs B m k Es → Calls Tryz.prog 92 #[.agg #[.slice A n c, .slice B m k]] W fun e w' => ∃ A' c', e = .returned (.slice A' F c') ∧ Below W.heap.size W w') (HC : ∀ W, DgIn W A n c Vs B m k Es → Calls Tryz.prog 93 #[.agg #[.slice A n c, .slice B m k]] W fun e w' => e = .returned (.int .i64 ((C : Nat) : Int)) ∧ Below W.heap.size W w') :
    Calls Tryz.prog 77 #[.agg #[.slice A n c, .slice B m k]] w fun e w' => e = .returned (.tuple #[.int .i64 (n : Int), .int .i64 (m : Int), .int .i64 ((F + aloneN Vs : Nat) : Int), .int .i64 (C : Int)]) ∧ Below w.heap.size w w' := by
  have HDa := Lib.hid h
  have hr : ∀ v ∈ Vs, v.2.1.2.2.2.length = v.2.1.2.1 := fun v hv => (h.r v hv).2.dlen
  have HC1 := Lib.hid (fun W (hv : RdS W W.heap.size 5 A n c (rowsV vC Vs)) => ecount1 A n c Vs W hv hn hr)
  have hl := h.v.rlen vC_len (by decide)
  have hal := alone_le Vs
  rw [hl] at hal
  obtain ⟨an, gan⟩ : ∃ z, aloneN Vs = z := ⟨_, rfl⟩
  rw [gan] at HC1 hal ⊢
  have HFf := Lib.hid HF
  have HCc := Lib.hid HC
  obtain ⟨ft, gft⟩ : ∃ z, F + an = z := ⟨_, rfl⟩
  have hw1 : IntKind.i64.wrap ((F : Int) + (an : Int)) = (ft : Int) := by rw [IntWalk.i64_in _ (by omega)]; omega
  rw [gft]
  clear gft
  clear h hr hl gan HF HC
  go_enter Tryz.func77, Tryz.ntmps77
  have lw1 : ((w.alloc (.cells #[.slice A n c, .slice B m k] 25))).cell? ⟨w.heap.size, 0, none⟩ = some (.slice A n c) := (show Whole (w.alloc (.cells #[.slice A n c, .slice B m k] 25)) (w.heap.size) (25) ([.slice A n c, .slice B m k]) from Whole.new2 (by first | rfl | simp)).cell (i := 0) rfl
  go_wp2_with fail
  clear lw1
  refine (HC1.out _ (DgIn.v (HDa.out.al (.cells #[.slice A n c, .slice B m k] 25)))).mono ?_
  rintro e w2 ⟨rfl, hb2⟩
  have Da_3 := Lib.hid ((HDa.out.al (.cells #[.slice A n c, .slice B m k] 25)).bl hb2)
  have D0_3 := Lib.hid ((show Whole (w.alloc (.cells #[.slice A n c, .slice B m k] 25)) (w.heap.size) (25) ([.slice A n c, .slice B m k]) from Whole.new2 (by first | rfl | simp)).bl hb2)
  have Bel_3 := Lib.hid (bel_bl (bel_al (Below.refl _ w) (.cells #[.slice A n c, .slice B m k] 25)) hb2)
  clear HDa
  clear hb2
  go_upto_region 2 with fail
  have Da_4 := Lib.hid (Da_3.out.dr)
  have D0_4 := Lib.hid (D0_3.out.dr)
  have Bel_4 := Lib.hid (bel_dr Bel_3.out)
  have ld5 : ∀ w', Kept Nil_ w2.drew w' → w'.cell? ⟨w.heap.size, 0, none⟩ = some (.slice A n c) := fun w' h => h.nil_cell (D0_4.out.cell (i := 0) rfl)
  have ld6 : ∀ w', Kept Nil_ w2.drew w' → w'.cell? ⟨w.heap.size, 1, none⟩ = some (.slice B m k) := fun w' h => h.nil_cell (D0_4.out.cell (i := 1) rfl)
  refine wp_region_reg Nil_ (by kernel_rfl) ?_
  apply wpR_next 0 (some 10)
  · simp only [List.getElem?_toArray, List.getElem?_cons_succ, List.getElem?_cons_zero]; exact rfl
  · rfl
  · kernel_rfl
  · kernel_rfl
  · kernel_rfl
  · exact fun _ _ _ _ h => h
  apply Exists.intro
  apply And.intro
  · apply yr_run; rfl; intro w' hw'; go_simp; (try with_reducible rfl)
  simp only [Act.put, List.setIfInBounds_toArray, List.set_cons_zero, List.set_cons_succ]
  apply wpR_next 1 (some 11)
  · simp only [List.getElem?_toArray, List.getElem?_cons_succ, List.getElem?_cons_zero]; exact rfl
  · rfl
  · kernel_rfl
  · kernel_rfl
  · kernel_rfl
  · exact fun _ _ _ _ h => h
  apply Exists.intro
  apply And.intro
  · apply yr_run; rfl; intro w' hw'; go_simp; (try with_reducible rfl)
  simp only [Act.put, List.setIfInBounds_toArray, List.set_cons_zero, List.set_cons_succ]
  apply wpR_next 2 (some 12)
  · simp only [List.getElem?_toArray, List.getElem?_cons_succ, List.getElem?_cons_zero]; exact rfl
  · rfl
  · kernel_rfl
  · kernel_rfl
  · kernel_rfl
  · exact fun _ _ _ _ h => h
  apply Exists.intro
  apply And.intro
  · apply yr_run; rfl; intro w' hw'; go_simp; (try with_reducible rfl)
  simp only [Act.put, List.setIfInBounds_toArray, List.set_cons_zero, List.set_cons_succ]
  apply wpR_next 3 (some 13)
  · simp only [List.getElem?_toArray, List.getElem?_cons_succ, List.getElem?_cons_zero]; exact rfl
  · rfl
  · kernel_rfl
  · kernel_rfl
  · kernel_rfl
  · exact fun _ _ _ _ h => h
  apply Exists.intro
  apply And.intro
  · apply yr_run; rfl; intro w' hw'; go_simp; (try with_reducible rfl)
  simp only [Act.put, List.setIfInBounds_toArray, List.set_cons_zero, List.set_cons_succ]
  apply wpR_next 4 (some 14)
  · simp only [List.getElem?_toArray, List.getElem?_cons_succ, List.getElem?_cons_zero]; exact rfl
  · rfl
  · kernel_rfl
  · kernel_rfl
  · kernel_rfl
  · exact fun _ _ _ _ h => h
  apply Exists.intro
  apply And.intro
  · apply yr_run; rfl; intro w' hw'; go_simp; (try with_reducible rfl)
  simp only [Act.put, List.setIfInBounds_toArray, List.set_cons_zero, List.set_cons_succ]
  apply wpR_next 5 (some 15)
  · simp only [List.getElem?_toArray, List.getElem?_cons_succ, List.getElem?_cons_zero]; exact rfl
  · rfl
  · kernel_rfl
  · kernel_rfl
  · kernel_rfl
  · exact fun _ _ _ _ h => h
  apply Exists.intro
  apply And.intro
  · apply yr_run; rfl; intro w' hw'; go_simp; (try with_reducible rfl)
  simp only [Act.put, List.setIfInBounds_toArray, List.set_cons_zero, List.set_cons_succ]
  apply wpR_next 6 (some 16)
  · simp only [List.getElem?_toArray, List.getElem?_cons_succ, List.getElem?_cons_zero]; exact rfl
  · rfl
  · kernel_rfl
  · kernel_rfl
  · kernel_rfl
  · exact fun _ _ _ _ h => h
  apply Exists.intro
  apply And.intro
  · apply yr_run; rfl; intro w' hw'; go_simp; (try with_reducible rfl)
  simp only [Act.put, List.setIfInBounds_toArray, List.set_cons_zero, List.set_cons_succ]
  apply wpR_next 9 (some 19)
  · simp only [List.getElem?_toArray, List.getElem?_cons_succ, List.getElem?_cons_zero]; exact rfl
  · rfl
  · kernel_rfl
  · kernel_rfl
  · kernel_rfl
  · exact fun _ _ _ _ h => h
  apply Exists.intro
  apply And.intro
  · apply yr_run; rfl; intro w' hw'; go_simp; (try with_reducible rfl)
  simp only [Act.put, List.setIfInBounds_toArray, List.set_cons_zero, List.set_cons_succ]
  apply wpR_next 11 (some 21)
  · simp only [List.getElem?_toArray, List.getElem?_cons_succ, List.getElem?_cons_zero]; exact rfl
  · rfl
  · kernel_rfl
  · kernel_rfl
  · kernel_rfl
  · exact fun _ _ _ _ h => h
  apply Exists.intro
  apply And.intro
  · apply yr_run; rfl; intro w' hw'; go_simp; (try with_reducible rfl)
  simp only [Act.put, List.setIfInBounds_toArray, List.set_cons_zero, List.set_cons_succ]
  apply wpR_call 7 (some 17)
  · simp only [List.getElem?_toArray, List.getElem?_cons_succ, List.getElem?_cons_zero]; exact rfl
  · rfl
  · kernel_rfl
  · rfl
  · intro w'; go_simp; first | done | exact ⟨rfl, rfl⟩ | with_reducible rfl
  intro w' hw'
  refine (HFf.out _ (Da_4.out.bl hw')).mono ?_
  rintro e w7 ⟨A5, c5, rfl, hb7⟩
  have Da_7 := Lib.hid ((Da_4.out.bl hw').bl hb7)
  have D0_7 := Lib.hid ((D0_4.out.bl hw').bl hb7)
  have Bel_7 := Lib.hid (bel_bl (bel_bl Bel_4.out hw') hb7)
  have ld8 := fun w'' (h : Kept Nil_ w7 w'') => ld5 w'' ((Kept.of_ext hw').trans ((Kept.of_below hb7).trans h))
  have ld9 := fun w'' (h : Kept Nil_ w7 w'') => ld6 w'' ((Kept.of_ext hw').trans ((Kept.of_below hb7).trans h))
  refine ⟨_, rfl, Kept.of_below hb7, ?_⟩
  clear hw' hb7
  simp only [Act.put, List.setIfInBounds_toArray, List.set_cons_zero, List.set_cons_succ]
  apply wpR_next 8 (some 18)
  · simp only [List.getElem?_toArray, List.getElem?_cons_succ, List.getElem?_cons_zero]; exact rfl
  · rfl
  · kernel_rfl
  · kernel_rfl
  · kernel_rfl
  · exact fun _ _ _ _ h => h
  apply Exists.intro
  apply And.intro
  · apply yr_run; rfl; intro w' hw'; go_simp; (try with_reducible rfl)
  simp only [Act.put, List.setIfInBounds_toArray, List.set_cons_zero, List.set_cons_succ]
  apply wpR_next 10 (some 20)
  · simp only [List.getElem?_toArray, List.getElem?_cons_succ, List.getElem?_cons_zero]; exact rfl
  · rfl
  · kernel_rfl
  · kernel_rfl
  · kernel_rfl
  · exact fun _ _ _ _ h => h
  apply Exists.intro
  apply And.intro
  · apply yr_run; rfl; intro w' hw'; go_simp; (try with_reducible rfl)
  simp only [Act.put, List.setIfInBounds_toArray, List.set_cons_zero, List.set_cons_succ]
  apply wpR_call 12 (some 22)
  · simp only [List.getElem?_toArray, List.getElem?_cons_succ, List.getElem?_cons_zero]; exact rfl
  · rfl
  · kernel_rfl
  · rfl
  · intro w'; go_simp; first | done | exact ⟨rfl, rfl⟩ | with_reducible rfl
  intro w' hw'
  refine (HCc.out _ (Da_7.out.bl hw')).mono ?_
  rintro e w10 ⟨rfl, hb10⟩
  have Da_10 := Lib.hid ((Da_7.out.bl hw').bl hb10)
  have D0_10 := Lib.hid ((D0_7.out.bl hw').bl hb10)
  have Bel_10 := Lib.hid (bel_bl (bel_bl Bel_7.out hw') hb10)
  have ld11 := fun w'' (h : Kept Nil_ w10 w'') => ld8 w'' ((Kept.of_ext hw').trans ((Kept.of_below hb10).trans h))
  have ld12 := fun w'' (h : Kept Nil_ w10 w'') => ld9 w'' ((Kept.of_ext hw').trans ((Kept.of_below hb10).trans h))
  refine ⟨_, rfl, Kept.of_below hb10, ?_⟩
  clear hw' hb10
  simp only [Act.put, List.setIfInBounds_toArray, List.set_cons_zero, List.set_cons_succ]
  apply wpR_next 13 (some 2)
  · simp only [List.getElem?_toArray, List.getElem?_cons_succ, List.getElem?_cons_zero]; exact rfl
  · rfl
  · kernel_rfl
  · kernel_rfl
  · kernel_rfl
  · exact fun _ _ _ _ h => h
  apply Exists.intro
  apply And.intro
  · apply yr_run; rfl; intro w' hw'; go_simp; (try with_reducible rfl)
  simp only [Act.put, List.setIfInBounds_toArray, List.set_cons_zero, List.set_cons_succ]
  apply wpR_next 14 (some 3)
  · simp only [List.getElem?_toArray, List.getElem?_cons_succ, List.getElem?_cons_zero]; exact rfl
  · rfl
  · kernel_rfl
  · kernel_rfl
  · kernel_rfl
  · exact fun _ _ _ _ h => h
  apply Exists.intro
  apply And.intro
  · apply yr_run; rfl; intro w' hw'; go_simp; (try with_reducible rfl)
  simp only [Act.put, List.setIfInBounds_toArray, List.set_cons_zero, List.set_cons_succ]
  apply wpR_next 15 (some 4)
  · simp only [List.getElem?_toArray, List.getElem?_cons_succ, List.getElem?_cons_zero]; exact rfl
  · rfl
  · kernel_rfl
  · kernel_rfl
  · kernel_rfl
  · exact fun _ _ _ _ h => h
  apply Exists.intro
  apply And.intro
  · apply yr_run; rfl; intro w' hw'; go_simp; (try with_reducible rfl)
  simp only [Act.put, List.setIfInBounds_toArray, List.set_cons_zero, List.set_cons_succ]
  apply wpR_next 16 (some 5)
  · simp only [List.getElem?_toArray, List.getElem?_cons_succ, List.getElem?_cons_zero]; exact rfl
  · rfl
  · kernel_rfl
  · kernel_rfl
  · kernel_rfl
  · exact fun _ _ _ _ h => h
  apply Exists.intro
  apply And.intro
  · apply yr_run; rfl; intro w' hw'; go_simp; (try with_reducible rfl)
  simp only [Act.put, List.setIfInBounds_toArray, List.set_cons_zero, List.set_cons_succ]
  refine wpR_done (by kernel_rfl) ?_ _
  intro w13 hw'
  have Da_14 := Lib.hid (Da_10.out.bl hw')
  have D0_14 := Lib.hid (D0_10.out.bl hw')
  have Bel_14 := Lib.hid (bel_bl Bel_10.out hw')
  clear Da_10 D0_10 Bel_10
  clear hw'
  go_wp2
  exact bodyPost_ret (v := .tuple #[.int .i64 (n : Int), .int .i64 (m : Int), .int .i64 (ft : Int), .int .i64 (C : Int)]) (by simp [results, Tryz.results77, go_sem]) rfl ⟨rfl, Bel_14.out⟩
end Go.Proofs.YtahbfdhjgnlmdaaGreat
