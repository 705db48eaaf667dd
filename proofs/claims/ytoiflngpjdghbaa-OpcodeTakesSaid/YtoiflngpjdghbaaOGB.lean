/- 'OpcodeTakes' answers true for every row of bytes.
   No condition beyond the row's own. -/
import Derived.Test.YtoiflngpjdghbaaOGA
import Derived.Test.YtoiflngpjdghbaaOAH
import Derived.Test.YtoiflngpjdghbaaOAF
import Derived.Test.YtoiflngpjdghbaaOAI
import Derived.Test.YtoiflngpjdghbaaRows
import Derived.Test.YtoiflngpjdghbaaOAB

/- The document's Take. -/
namespace Go.Proofs.Ytoiflngpjdghbaa
open Go.RowKit
set_option linter.unusedSimpArgs false
set_option linter.unusedVariables false

theorem okN_snoc : ∀ (k : Nat) (L : List Nat), okN (k + 1) L = (okN k L && okO (edL k L))
  | 0, L => by
    show (okO L && true) = (true && okO L)
    rw [Bool.and_true, Bool.true_and]
  | k + 1, L => by
    show (okO L && okN (k + 1) (opL L)) = ((okO L && okN k (opL L)) && okO (edL k (opL L)))
    rw [okN_snoc k, Bool.and_assoc]
theorem okN_le : ∀ {n k : Nat} (L : List Nat), k ≤ n → okN n L = true → okN k L = true
  | n, 0, _, _, _ => rfl
  | 0, k + 1, _, h, _ => absurd h (by omega)
  | n + 1, k + 1, L, h, q => by
    have h9 := Bool.and_eq_true_iff.1 (show (okO L && okN n (opL L)) = true from q)
    show (okO L && okN k (opL L)) = true
    rw [h9.1, okN_le (opL L) (by omega) h9.2]
    rfl
theorem fdV_t {k : Nat} {x : Int × Int} {M : List Nat} (hb : ∀ b ∈ M, b < 256) : (fdV k x M).t.size ≤ 255 := by
  unfold fdV
  by_cases k3 : k = 3
  · rw [if_pos k3]; exact Nat.zero_le _
  rw [if_neg k3]
  by_cases k5 : k = 5
  · rw [if_pos k5]; exact Nat.zero_le _
  rw [if_neg k5]
  by_cases k6 : k = 6
  · rw [if_pos k6]; exact Nat.zero_le _
  rw [if_neg k6]
  by_cases k7 : k = 7
  · rw [if_pos k7]
    show (txT (M.drop 1)).size ≤ 255
    unfold txT
    split
    · rw [txt_size, List.length_take]
      have := byte_lt (drop_lt hb 1)
      omega
    · exact Nat.zero_le _
  rw [if_neg k7]
  by_cases k8 : k = 8
  · rw [if_pos k8]; exact Nat.zero_le _
  rw [if_neg k8]
  exact Nat.zero_le _
theorem edV_t : ∀ (n : Nat) {L : List Nat}, (∀ b ∈ L, b < 256) → ∀ o ∈ edV n L, o.t.size ≤ 255
  | 0, _, _, _, h => by cases h
  | n + 1, L, hb, o, h => by
    rcases List.mem_cons.1 (show o ∈ opV L :: edV n (opL L) from h) with rfl | h
    · exact fdV_t (lI_lt (drop_lt hb 1))
    · exact edV_t n (opL_lt hb) o h
theorem okEd_got {B : List Nat} (h : okEd B = true) : okN (c1 B) (B.drop 1) = true ∧ 1 ≤ B.length ∧ c1 B ≤ 6 ∧ mayE (rdV B) = 0 := by
  have h1 := okEd_is h
  obtain ⟨-, -, h4, h5, h6⟩ := isE_rd h1
  have h7 := mayE_ok h1.1
  exact ⟨h4, h5, by omega, h1.1⟩
/-- How a round of the document's Take stands. -/
structure EdR (lo g b2 b7 : Nat) (B1 : Bool) (L0 : List Nat) (w : World) (k : Nat) (A : Option Addr) (c : Nat) (R : List Nat) (bad : Bool) (Os : List OpT) (W : World) : Prop where
  cu : RrAt lo W g R bad
  hy : Whole W b7 25 [.slice A k c]
  hx : Whole W b2 25 [.slice none 0 0]
  own : W.ownsRow lo 48 20 (.slice A k c) k (rowsV opCells Os)
  kp : Below lo w W
  st : bad = (B1 || !okN k L0)
  vl : okN k L0 = true → Os = edV k L0 ∧ R = edL k L0
theorem EdR.bl {lo g b2 b7 k c : Nat} {B1 bad : Bool} {L0 R : List Nat} {Os : List OpT} {w W W' : World} {A : Option Addr} (h : EdR lo g b2 b7 B1 L0 w k A c R bad Os W) (hlo : lo ≤ w.heap.size) (hb : Below W.heap.size W W') : EdR lo g b2 b7 B1 L0 w k A c R bad Os W' :=
  ⟨h.cu.bl hb, h.hy.bl hb, h.hx.bl hb, own_up h.own hb, h.kp.trans (hb.mono (Nat.le_trans hlo h.kp.size)), h.st, h.vl⟩
/-- What the document's Take tells. -/
def GivesTR (w : World) (B : List Nat) (e : Ending) (w' : World) : Prop :=
  ∃ A1 k1 A2 k2 m l, e = .returned (.tuple #[.agg #[.slice A1 l k1], .slice A2 m k2, .int .i64 (tkE B)]) ∧ l = (tkV B).length ∧ m = (tkR B).length ∧ w'.ownsRow w.heap.size 48 20 (.slice A1 l k1) l (rowsV opCells (tkV B)) ∧ RdS w' w'.heap.size 1 A2 m k2 (rowsV f8 (tkR B)) ∧ Below w.heap.size w w'
set_option maxRecDepth 100000 in
set_option maxHeartbeats 8000000 in
theorem rtake10_any (A0 : Option Addr) (n0 c0 : Nat) (B : List Nat) (w : World) (hl0 : B.length = n0) (h : RdS w w.heap.size 1 A0 n0 c0 (rowsV f8 B)) (hn0 : n0 ≤ 90000) (hb : ∀ b ∈ B, b < 256) :
    Calls Try.prog 14 #[.slice A0 n0 c0] w (GivesTR w B) := by
  obtain ⟨i0, hi, hz0, hz1, hz2⟩ := info_parts_ info_op
  have HR0 := Lib.hid h
  have HX0 : RowKit.Hid (Whole ((w.alloc (.cells #[.slice none 0 0] 25)).alloc (.cells #[.slice A0 n0 c0, .bool false] 68)) w.heap.size 25 [.slice none 0 0]) := Lib.hid ((Whole.new_ w 25 [_]).al _)
  have HG0 : RowKit.Hid (Whole ((w.alloc (.cells #[.slice none 0 0] 25)).alloc (.cells #[.slice A0 n0 c0, .bool false] 68)) (w.heap.size + 1) 68 [.slice A0 n0 c0, .bool false]) := Lib.hid (Whole.new2 (by simp))
  have HB0 : RowKit.Hid (Below w.heap.size w ((w.alloc (.cells #[.slice none 0 0] 25)).alloc (.cells #[.slice A0 n0 c0, .bool false] 68))) := Lib.hid (below2 w _ _)
  have HC0 : RowKit.Hid (RrAt w.heap.size ((w.alloc (.cells #[.slice none 0 0] 25)).alloc (.cells #[.slice A0 n0 c0, .bool false] 68)) (w.heap.size + 1) B false) := Lib.hid ⟨A0, n0, c0, HG0.out, (HR0.out.al _).al _, by omega, fun a ha h0 => h.low a ha h0, by omega, hb⟩
  have Hb := Lib.hid hb
  have Hl0 := Lib.hid hl0
  have hlt := byte_lt hb
  obtain ⟨n, gn⟩ : ∃ z, c1 B = z := ⟨_, rfl⟩
  obtain ⟨L0, gL0⟩ : ∃ z, B.drop 1 = z := ⟨_, rfl⟩
  obtain ⟨B1, gB1⟩ : ∃ z, (!decide (1 ≤ B.length)) = z := ⟨_, rfl⟩
  have HN1 : RowKit.Hid (∀ lo g W, RrAt lo W g B false → Calls Try.prog 30 #[.pointer (some ⟨g, 0, none⟩)] W fun e w' => e = .returned (.int .i64 (n : Int)) ∧ Rr1 lo W w' g L0 B1) := Lib.hid (fun lo g W hc => by
    have h1 := rone_any lo g B false W hc
    rw [gn, gL0, gB1] at h1
    exact h1)
  rw [gn] at hlt
  have Gn := Lib.hid gn
  have GL0 := Lib.hid gL0
  have GB1 := Lib.hid gB1
  clear h hb hl0 gn gL0 gB1 HG0
  go_enter Try.func14, Try.ntmps14
  go_upto_region 2 with fail
  obtain ⟨w0, gw0⟩ : ∃ z, (w.alloc (.cells #[.slice none 0 0] 25)).alloc (.cells #[.slice A0 n0 c0, .bool false] 68) = z := ⟨_, rfl⟩
  obtain ⟨g, gg⟩ : ∃ z, w.heap.size + 1 = z := ⟨_, rfl⟩
  rw [gw0] at HX0 HB0 HC0 ⊢
  rw [gg] at HC0 ⊢
  obtain ⟨b2, gb2⟩ : ∃ z, w.heap.size = z := ⟨_, rfl⟩
  rw [gb2] at HX0 HC0 HB0 ⊢
  have Gb2 := Lib.hid gb2
  have Hg : RowKit.Hid (b2 < g) := Lib.hid (by omega)
  clear gw0 gb2 gg
  go_upto_region 5 with (first
    | (go_at_call 30
       refine (HN1.out _ _ _ HC0.out).mono ?_
       rintro e w1 ⟨rfl, hcu⟩
       have HS1 : RowKit.Hid (EdR b2 g b2 w1.heap.size B1 L0 w 0 none 0 L0 B1 [] (w1.alloc (.cells #[.slice none 0 0] 25))) := Lib.hid ⟨hcu.1.al _, Whole.new_ _ _ [_], (hcu.2.whole HX0.out (fun e => by have h1 : b2 = g := e; have := Hg.out; omega)).al _, World.ownsRow_nil _ _ _ _, (by
         have h1 : Below b2 w w1 := HB0.out.trans (hcu.2.below (Nat.le_trans (Nat.le_of_eq Gb2.out.symm) HB0.out.size) (fun i hi e => by have h1 : i = g := e; have := Hg.out; omega))
         exact h1.alloc (Nat.le_trans (Nat.le_of_eq Gb2.out.symm) h1.size) _), by show B1 = (B1 || !true); rw [Bool.not_true, Bool.or_false], fun _ => ⟨rfl, rfl⟩⟩
       have Hb7 : RowKit.Hid (g < w1.heap.size ∧ b2 < w1.heap.size) := Lib.hid ⟨hcu.1.lt, by have := hcu.1.lt; have := Hg.out; omega⟩
       clear hcu))
  obtain ⟨w2, gw2⟩ : ∃ z, w1.alloc (.cells #[.slice none 0 0] 25) = z := ⟨_, rfl⟩
  obtain ⟨b7, gb7⟩ : ∃ z, w1.heap.size = z := ⟨_, rfl⟩
  rw [gw2] at HS1 ⊢
  rw [gb7] at HS1 Hb7 ⊢
  clear gw2 gb7 HX0 HB0 HC0 HN1
  go_loopw [8] (fun i wr => ∃ (k : Nat) (A : Option Addr) (c : Nat) (R : List Nat) (bad : Bool) (Os : List OpT), k ≤ n ∧ k ≤ 7 ∧ i = .int .i64 (k : Int) ∧ RowKit.Hid (EdR b2 g b2 b7 B1 L0 w k A c R bad Os wr)) (fun i _ => 7 - (intOf i).toNat)
  case atStart => exact ⟨0, none, 0, L0, B1, [], Nat.zero_le _, Nat.zero_le _, rfl, HS1⟩
  case round =>
    clear HS1
    obtain ⟨k, A, c, R, bad, Os, hk, hk7, rfl, hin⟩ := hrel
    by_cases hgo : k < n ∧ k ≤ 6 ∧ bad = false
    · obtain ⟨hk1, hk2, rfl⟩ := hgo
      have hi1 : (k : Int) < (n : Int) := by omega
      have hi2 : (k : Int) ≤ 6 := by omega
      have HRk := Lib.hid (fun W hc => rrop_any b2 g R false W hc)
      have l1 := hin.out.cu.cell1
      go_upto_region 7 with fail
      clear l1 hi1 hi2
      have HD : RowKit.Hid (Ext wr wr.drew) := Lib.hid (below_drewN wr.heap.size wr 1)
      have hne3 := own_ne hin.out.own hin.out.hy (by decide)
      have hneg : some g ≠ (Value.slice A k c).ownBlock := by
        obtain ⟨A1, n1, c1', q1, -, -, -, -⟩ := hin.out.cu
        exact own_ne hin.out.own q1 (by decide)
      have Hneg := Lib.hid hneg
      have hg3 : g ≠ b7 := by have := Hb7.out; omega
      have ld0 : ∀ w', Kept (fun i => i = g ∨ some i = (Value.slice A k c).ownBlock) wr.drew w' → w'.cell? ⟨b7, 0, none⟩ = some (.slice A k c) := fun w' hh => hh.cell (hin.out.hy.dr.cell (i := 0) rfl) (fun e => by
        rcases e with e | e
        · exact hg3 e.symm
        · exact hne3 e)
      have Hlw : RowKit.Hid (b2 ≤ w.heap.size) := Lib.hid (Nat.le_of_eq Gb2.out.symm)
      clear hne3 hneg hg3
      refine wp_region_tail (fun i => i = g ∨ some i = (Value.slice A k c).ownBlock) [7] (by kernel_rfl) ?_
      apply wpT_next 0 (some 31) (by kernel_rfl)
      · simp only [List.getElem?_toArray, List.getElem?_cons_succ, List.getElem?_cons_zero]; exact rfl
      · rfl
      · kernel_rfl
      · kernel_rfl
      · kernel_rfl
      · exact fun _ _ _ _ h => h
      apply Exists.intro
      apply And.intro
      · apply yr_run; rfl; intro w' hw'; go_simp; (try with_reducible rfl)
      simp only [Act.put, List.setIfInBounds_toArray, List.set_cons_zero, List.set_cons_succ]
      apply wpT_next 1 (some 32) (by kernel_rfl)
      · simp only [List.getElem?_toArray, List.getElem?_cons_succ, List.getElem?_cons_zero]; exact rfl
      · rfl
      · kernel_rfl
      · kernel_rfl
      · kernel_rfl
      · exact fun _ _ _ _ h => h
      apply Exists.intro
      apply And.intro
      · apply yr_run; rfl; intro w' hw'; go_simp; (try with_reducible rfl)
      simp only [Act.put, List.setIfInBounds_toArray, List.set_cons_zero, List.set_cons_succ]
      apply wpT_next 2 (some 33) (by kernel_rfl)
      · simp only [List.getElem?_toArray, List.getElem?_cons_succ, List.getElem?_cons_zero]; exact rfl
      · rfl
      · kernel_rfl
      · kernel_rfl
      · kernel_rfl
      · exact fun _ _ _ _ h => h
      apply Exists.intro
      apply And.intro
      · apply yr_run; rfl; intro w' hw'; go_simp; (try with_reducible rfl)
      simp only [Act.put, List.setIfInBounds_toArray, List.set_cons_zero, List.set_cons_succ]
      apply wpT_call 3 (some 34)
      · simp only [List.getElem?_toArray, List.getElem?_cons_succ, List.getElem?_cons_zero]; exact rfl
      · rfl
      · kernel_rfl
      · rfl
      · intro w'; go_simp; first | done | exact ⟨rfl, rfl⟩ | with_reducible rfl
      intro w' hw'
      have hwx := Ext.trans HD.out hw'
      have HAl := hin.out.bl Hlw.out hwx
      refine (HRk.out _ HAl.cu).mono ?_
      rintro e w1 ⟨o, R5, rfl, hcu, hok⟩
      refine ⟨_, rfl, hcu.2.wider (fun i _ e => .inl e), ?_⟩
      have HC5 := Lib.hid hcu.1
      have HOk := Lib.hid hok
      have HY5 := Lib.hid (hcu.2.whole HAl.hy (fun e => by have h1 : b7 = g := e; have := Hb7.out; omega))
      have HX5 := Lib.hid (hcu.2.whole HAl.hx (fun e => by have h1 : b2 = g := e; have := Hg.out; omega))
      have HO5 := Lib.hid (own_at1 HAl.own hcu.2 Hneg.out)
      have HK5 : RowKit.Hid (Below b2 w w1) := Lib.hid (HAl.kp.trans (hcu.2.below (Nat.le_trans Hlw.out HAl.kp.size) (fun i hi e => by have h1 : i = g := e; have := Hg.out; omega)))
      clear hw' hcu hwx HAl ld0 hok
      simp only [Act.put, List.setIfInBounds_toArray, List.set_cons_zero, List.set_cons_succ]
      apply wpT_run 4 (some 35)
      · simp only [List.getElem?_toArray, List.getElem?_cons_succ, List.getElem?_cons_zero]; exact rfl
      · rfl
      · kernel_rfl
      · rfl
      intro w' hw'
      refine ⟨.slice (some ⟨w'.heap.size, 0, none⟩) 1 1, w'.alloc (.cells (opCells o).toArray 48), exec_buildSlice 23 48 1 #[(0, .tmp 34)] (by rfl) Try.underlying23 _ (by kernel_rfl), Kept.of_below (below1 _ _), ?_⟩
      have hE : Ext w1 (w'.alloc (.cells (opCells o).toArray 48)) := Ext.trans hw' (below1 _ _)
      have HL6 : RowKit.Hid (RdS (w'.alloc (.cells (opCells o).toArray 48)) (w'.alloc (.cells (opCells o).toArray 48)).heap.size 20 (some ⟨w'.heap.size, 0, none⟩) 1 1 (rowsV opCells [o])) := Lib.hid (by rw [rowsOp1]; exact RdS.of_whole8 (Whole.new_ _ _ _) rfl)
      have HC6 := Lib.hid (HC5.out.bl hE)
      have HY6 := Lib.hid (HY5.out.bl hE)
      have HX6 := Lib.hid (HX5.out.bl hE)
      have HO6 := Lib.hid (own_up HO5.out hE)
      have HK6 : RowKit.Hid (Below b2 w (w'.alloc (.cells (opCells o).toArray 48))) := Lib.hid (HK5.out.trans (Below.mono hE (Nat.le_trans Hlw.out HK5.out.size)))
      obtain ⟨w2, gw2⟩ : ∃ z, w'.alloc (.cells (opCells o).toArray 48) = z := ⟨_, rfl⟩
      obtain ⟨g6, gg6⟩ : ∃ z, w'.heap.size = z := ⟨_, rfl⟩
      rw [gw2] at HL6 HC6 HY6 HX6 HO6 HK6 ⊢
      rw [gg6] at HL6 ⊢
      clear hw' hE gw2 gg6 HC5 HY5 HX5 HO5 HK5
      simp only [Act.put, List.setIfInBounds_toArray, List.set_cons_zero, List.set_cons_succ]
      apply wpT_run 5 (some 36)
      · simp only [List.getElem?_toArray, List.getElem?_cons_succ, List.getElem?_cons_zero]; exact rfl
      · rfl
      · kernel_rfl
      · rfl
      intro w' hw'
      have hO := own_up HO6.out hw'
      have hY := HY6.out.bl hw'
      have hX := HX6.out.bl hw'
      have hC := HC6.out.bl hw'
      have hK : Below b2 w w' := HK6.out.trans (Below.mono hw' (Nat.le_trans Hlw.out HK6.out.size))
      have hB2 : b2 ≤ w'.heap.size := Nat.le_trans Hlw.out hK.size
      obtain ⟨vv, w'', hrun, ho, hb, hg, hbk⟩ := Ow.app2 (P := Try.prog) 23 23 48 i0 _ 20 168 _ Try.underlying23 hi hz0 hz1 hz2 rfl (by decide) _ _ _ (ow_of hO hB2) _ _ _ _ _ (HL6.out.bl hw') (rowsV_one opCells opCells_one [o]) (by unfold maxLen; omega) (by omega)
      refine ⟨vv, w'', exec_append (by rfl) (by rfl) (by rfl) hrun, kept_grow hg (fun i e => .inr e), ?_⟩
      obtain ⟨A7, c7, rfl, -⟩ := ho.rds
      have hne3 := own_ne hO hY (by decide)
      have hne2 := own_ne hO hX (by decide)
      have hkb : Kept (fun i => some i = (Value.slice A k c).ownBlock) w' w'' := kept_grow hg (fun i e => e)
      have hlo7 : ∀ i, some i = (Value.slice A k c).ownBlock → b2 ≤ i := fun i e => (hO.lt i e.symm).1
      have HC7 := Lib.hid (hC.kept hkb Hneg.out (fun i hi e => by have h1 := hlo7 i e; omega))
      have HY7 := Lib.hid (hkb.whole hY hne3)
      have HX7 := Lib.hid (hkb.whole hX hne2)
      have HO7 := Lib.hid ho.own
      have HK7 : RowKit.Hid (Below b2 w w'') := Lib.hid (hK.trans (hkb.below hB2 (fun i hi e => by have h1 := hlo7 i e; omega)))
      obtain ⟨w3, gw3⟩ : ∃ z, w'' = z := ⟨_, rfl⟩
      rw [gw3] at HC7 HY7 HX7 HO7 HK7 ⊢
      clear hw' hO hY hX hC hK hB2 hrun ho hb hg hbk hne3 hne2 hkb hlo7 gw3 HL6 HC6 HY6 HX6 HO6 HK6
      simp only [Act.put, List.setIfInBounds_toArray, List.set_cons_zero, List.set_cons_succ]
      apply wpT_next 6 (some 37) (by kernel_rfl)
      · simp only [List.getElem?_toArray, List.getElem?_cons_succ, List.getElem?_cons_zero]; exact rfl
      · rfl
      · kernel_rfl
      · kernel_rfl
      · kernel_rfl
      · exact fun _ _ _ _ h => h
      apply Exists.intro
      apply And.intro
      · apply yr_run; rfl; intro w' hw'; go_simp; (try with_reducible rfl)
      simp only [Act.put, List.setIfInBounds_toArray, List.set_cons_zero, List.set_cons_succ]
      apply wpT_last 7
      · simp only [List.getElem?_toArray, List.getElem?_cons_succ, List.getElem?_cons_zero]; exact rfl
      · rfl
      · kernel_rfl
      · rfl
      · decide
      intro w' hw'
      have hy := HY7.out.bl hw'
      have hcl := hy.cell (i := 0) rfl
      have hfr := hy.free 0
      refine ⟨w'.setCell ⟨b7, 0, none⟩ (.slice A7 (k + 1) c7), ?_, ?_⟩
      · go_simp; first | done | exact rfl
      have HS8 : RowKit.Hid (EdR b2 g b2 b7 B1 L0 w (k + 1) A7 c7 R5 (false || !okO R) (Os ++ [o]) (w'.setCell ⟨b7, 0, none⟩ (.slice A7 (k + 1) c7))) := Lib.hid (by
        have hx := HX7.out.bl hw'
        have hst := hin.out.st
        have hB1 : B1 = false := by cases B1; rfl; cases hst
        have hkN : okN k L0 = true := by
          rw [hB1, Bool.false_or] at hst
          cases hq : okN k L0
          · rw [hq] at hst; cases hst
          · rfl
        obtain ⟨v1, v2⟩ := hin.out.vl hkN
        refine ⟨(HC7.out.bl hw').poke Hb7.out.1 _, hy.set_ 0 _, hx.far (p := ⟨b7, 0, none⟩) (show b2 ≠ b7 by have := Hb7.out; omega) _, ?_, (HK7.out.trans (Below.mono hw' (Nat.le_trans Hlw.out HK7.out.size))).setCell (p := ⟨b7, 0, none⟩) (by show b2 ≤ b7; have := Hb7.out; omega) _, ?_, fun q => ?_⟩
        · rw [rowsV_app]
          exact own_cell_far (own_up HO7.out hw') (own_ne (own_up HO7.out hw') hy (by decide)) _
        · rw [okN_snoc, hkN, hB1, ← v2]
          rfl
        · rw [okN_snoc, hkN, Bool.true_and, ← v2] at q
          obtain ⟨u1, u2⟩ := HOk.out q
          rw [edV_snoc, edL_snoc, ← v1, ← v2, u1, u2]
          exact ⟨rfl, rfl⟩)
      obtain ⟨w4, gw4⟩ : ∃ z, w'.setCell ⟨b7, 0, none⟩ (.slice A7 (k + 1) c7) = z := ⟨_, rfl⟩
      rw [gw4] at HS8 ⊢
      clear hw' hy hcl hfr gw4 HC7 HY7 HX7 HO7 HK7
      try simp only [Act.put, List.setIfInBounds_toArray, List.set_cons_zero, List.set_cons_succ]
      refine wpT_done (by kernel_rfl) ?_ _
      intro wE hwE
      have HS9 := Lib.hid (HS8.out.bl Hlw.out hwE)
      clear HS8 hwE hin
      go_wp2
      go_roundw
      case rel => exact ⟨k + 1, A7, c7, R5, _, _, by omega, by omega, by go_num, HS9⟩
      case measure => simp [intOf]; omega
    · go_upto_region 5 with fail
      go_cut [28] (fun v z => v = .bool false ∧ z = wr)
      case first =>
        by_cases hk1 : k < n
        · have hi1 : (k : Int) < (n : Int) := by omega
          by_cases hk2 : k ≤ 6
          · have hi2 : (k : Int) ≤ 6 := by omega
            obtain rfl : bad = true := by
              cases bad with
              | true => rfl
              | false => exact absurd ⟨hk1, hk2, rfl⟩ hgo
            have l1 := hin.out.cu.cell1
            clear hgo
            go_wp2
            go_meet
            exact ⟨rfl, rfl⟩
          · have hi2 : ¬ (k : Int) ≤ 6 := by omega
            clear hgo
            go_wp2
            go_meet
            exact ⟨rfl, rfl⟩
        · have hi1 : ¬ (k : Int) < (n : Int) := by omega
          clear hgo
          go_wp2
          go_meet
          exact ⟨rfl, rfl⟩
      case rest =>
      obtain ⟨rfl, hz⟩ := hcut
      replace hz := hz.symm
      subst hz
      go_upto_region 8 with fail
      have l1 := hin.out.cu.cell1
      have l2 := hin.out.hy.cell (i := 0) rfl
      have q0 := hin.out.hx.cell (i := 0) rfl
      have f0 := hin.out.hx.free 0
      have Hlw : RowKit.Hid (b2 ≤ w.heap.size) := Lib.hid (Nat.le_of_eq Gb2.out.symm)
      have Hno : RowKit.Hid (∀ W, Below b2 w W → okEd B = false → GivesTR w B (.returned (.tuple #[.agg #[.slice none 0 0], .slice A0 n0 c0, .int .i64 2])) W) := Lib.hid (fun W hb hq => by
        have e1 : tkV B = [] := by unfold tkV; rw [hq]; rfl
        have e2 : tkR B = B := by unfold tkR; rw [hq]; rfl
        have e3 : tkE B = 2 := by unfold tkE; rw [hq]; rfl
        rw [← Gb2.out] at hb
        unfold GivesTR
        rw [e1, e2, e3]
        exact ⟨none, 0, A0, c0, n0, 0, rfl, rfl, Hl0.out.symm, World.ownsRow_nil _ _ _ _, HR0.out.bl hb, hb⟩)
      have HXz := Lib.hid (hin.out.hx.set_ 0 (.slice none 0 0))
      have HBz := Lib.hid (hin.out.kp.setCell (p := ⟨b2, 0, none⟩) (Nat.le_refl _) (.slice none 0 0))
      cases bad with
      | true =>
        have hq : okEd B = false := by
          cases he : okEd B with
          | false => rfl
          | true =>
            obtain ⟨j1, j2, j3, -⟩ := okEd_got he
            rw [GL0.out, Gn.out] at j1
            have h1 := hin.out.st
            rw [← GB1.out, decide_eq_true j2, okN_le L0 hk j1] at h1
            cases h1
        have HP := Lib.hid (Hno.out _ HBz.out hq)
        clear hq hgo
        go_wp2
        exact ret_whole3 rfl b2 rfl rfl rfl HXz.out Try.underlying25 rfl (by kernel_rfl) rfl HP.out
      | false =>
        by_cases hnk : k = n
        · subst hnk
          have hkN : okN k L0 = true := by
            have hst := hin.out.st
            cases hq : okN k L0
            · rw [hq] at hst; cases B1 <;> cases hst
            · rfl
          have hB1 : 1 ≤ B.length := by
            have hst := hin.out.st
            rw [hkN] at hst
            by_cases hq : 1 ≤ B.length
            · exact hq
            · rw [← GB1.out, decide_eq_false hq] at hst; cases hst
          obtain ⟨v1, v2⟩ := hin.out.vl hkN
          have hV : Os = rdV B := by rw [v1, ← GL0.out]; unfold rdV; rw [Gn.out]
          have hR : R = rdR B := by rw [v2, ← GL0.out]; unfold rdR; rw [Gn.out]
          have HM := Lib.hid (fun W (h : RdS W W.heap.size 20 A k c (rowsV opCells Os)) => rmayedit_any A k c Os W h (by unfold maxLen; omega) (fun o ho => by rw [v1] at ho; have := edV_t k (L := L0) (by rw [← GL0.out]; exact drop_lt Hb.out 1) o ho; unfold maxLen; omega))
          have Hmx : RowKit.Hid (mayE Os ≠ 0 → okEd B = false) := Lib.hid (fun hx => by
            cases he : okEd B with
            | false => rfl
            | true => exact absurd (hV ▸ (okEd_got he).2.2.2) hx)
          have Hyes : RowKit.Hid (∀ A c Ag cg ng W, mayE Os = 0 → W.ownsRow b2 48 20 (.slice A k c) k (rowsV opCells Os) → RdS W W.heap.size 1 Ag ng cg (rowsV f8 R) → ng = R.length → Below b2 w W → GivesTR w B (.returned (.tuple #[.agg #[.slice A k c], .slice Ag ng cg, .int .i64 0])) W) := Lib.hid (fun A c Ag cg ng W hx h1 h2 h3 h4 => by
            have he : okEd B = true := (is_okEd (rd_isE Hb.out hB1 (by rw [Gn.out, GL0.out]; exact hkN) (hV ▸ hx))).1
            have e1 : tkV B = Os := by unfold tkV; rw [if_pos he, hV]
            have e2 : tkR B = R := by unfold tkR; rw [if_pos he, hR]
            have e3 : tkE B = 0 := by unfold tkE; rw [if_pos he]
            rw [← Gb2.out] at h4 h1
            unfold GivesTR
            rw [e1, e2, e3]
            exact ⟨A, c, Ag, cg, ng, k, rfl, ((own_rds h1).rlen opCells_len' (by decide)).symm, h3, h1, h2, h4⟩)
          obtain ⟨x, gx⟩ : ∃ z, mayE Os = z := ⟨_, rfl⟩
          rw [gx] at HM Hmx Hyes
          clear gx v1 v2 hV hR hB1 hkN hgo
          by_cases hx0 : x = 0
          · subst hx0
            go_upto_region 10 with (first
              | (go_at_call 22
                 refine (HM.out _ (own_rds hin.out.own)).mono ?_
                 rintro e w5 ⟨rfl, hb⟩
                 have HX5 := Lib.hid (hin.out.hx.bl hb)
                 have HY5 := Lib.hid (hin.out.hy.bl hb)
                 have HC5 := Lib.hid (hin.out.cu.bl hb)
                 have HO5 := Lib.hid (own_up hin.out.own hb)
                 have HB5 : RowKit.Hid (Below b2 w w5) := Lib.hid (hin.out.kp.trans (hb.mono (Nat.le_trans Hlw.out hin.out.kp.size)))
                 clear hb l1 l2 q0 f0))
            have HD : RowKit.Hid (Ext w5 w5.drew) := Lib.hid (below_drewN w5.heap.size w5 1)
            obtain ⟨Ag, ng, cg, a0, hrg, hng, -, hlg⟩ := HC5.out.cell0
            have ldT : ∀ w', Kept (fun i => i = b2) w5.drew w' → w'.cell? ⟨b7, 0, none⟩ = some (.slice A k c) := fun w' hh => hh.cell (HY5.out.dr.cell (i := 0) rfl) (fun e => by have h1 : b7 = b2 := e; have := Hb7.out; omega)
            have ldG : ∀ w', Kept (fun i => i = b2) w5.drew w' → w'.cell? ⟨g, 0, none⟩ = some (.slice Ag ng cg) := fun w' hh => hh.cell (HD.out.cell a0) (fun e => by have h1 : g = b2 := e; have := Hg.out; omega)
            have HRg := Lib.hid hrg
            have HLg := Lib.hid hlg
            have Hng := Lib.hid hng
            clear hrg hlg hng a0
            refine wp_region_reg (fun i => i = b2) (by kernel_rfl) ?_
            apply wpR_next 0 (some 56)
            · simp only [List.getElem?_toArray, List.getElem?_cons_succ, List.getElem?_cons_zero]; exact rfl
            · rfl
            · kernel_rfl
            · kernel_rfl
            · kernel_rfl
            · exact fun _ _ _ _ h => h
            apply Exists.intro
            apply And.intro
            · apply yr_run; rfl; intro w' hw'; go_simp; (try with_reducible rfl)
            simp only [Act.put, List.setIfInBounds_toArray, List.set_cons_zero, List.set_cons_succ]
            apply wpR_next 1 (some 57)
            · simp only [List.getElem?_toArray, List.getElem?_cons_succ, List.getElem?_cons_zero]; exact rfl
            · rfl
            · kernel_rfl
            · kernel_rfl
            · kernel_rfl
            · exact fun _ _ _ _ h => h
            apply Exists.intro
            apply And.intro
            · apply yr_run; rfl; intro w' hw'; go_simp; (try with_reducible rfl)
            simp only [Act.put, List.setIfInBounds_toArray, List.set_cons_zero, List.set_cons_succ]
            apply wpR_next 2 (some 58)
            · simp only [List.getElem?_toArray, List.getElem?_cons_succ, List.getElem?_cons_zero]; exact rfl
            · rfl
            · kernel_rfl
            · kernel_rfl
            · kernel_rfl
            · exact fun _ _ _ _ h => h
            apply Exists.intro
            apply And.intro
            · apply yr_run; rfl; intro w' hw'; go_simp; (try with_reducible rfl)
            simp only [Act.put, List.setIfInBounds_toArray, List.set_cons_zero, List.set_cons_succ]
            apply wpR_next 3 (some 59)
            · simp only [List.getElem?_toArray, List.getElem?_cons_succ, List.getElem?_cons_zero]; exact rfl
            · rfl
            · kernel_rfl
            · kernel_rfl
            · kernel_rfl
            · exact fun _ _ _ _ h => h
            apply Exists.intro
            apply And.intro
            · apply yr_run; rfl; intro w' hw'; go_simp; (try with_reducible rfl)
            simp only [Act.put, List.setIfInBounds_toArray, List.set_cons_zero, List.set_cons_succ]
            apply wpR_next 4 (some 60)
            · simp only [List.getElem?_toArray, List.getElem?_cons_succ, List.getElem?_cons_zero]; exact rfl
            · rfl
            · kernel_rfl
            · kernel_rfl
            · kernel_rfl
            · exact fun _ _ _ _ h => h
            apply Exists.intro
            apply And.intro
            · apply yr_run; rfl; intro w' hw'; go_simp; (try with_reducible rfl)
            simp only [Act.put, List.setIfInBounds_toArray, List.set_cons_zero, List.set_cons_succ]
            apply wpR_store 5
            · simp only [List.getElem?_toArray, List.getElem?_cons_succ, List.getElem?_cons_zero]; exact rfl
            · rfl
            · kernel_rfl
            · rfl
            intro w' hw'
            have hE := Ext.trans HD.out hw'
            have hx := HX5.out.bl hE
            have q0 := hx.cell (i := 0) rfl
            have f0 := hx.free 0
            refine ⟨w'.setCell ⟨b2, 0, none⟩ (.slice A k c), ?_, Kept.setCell (S := fun i => i = b2) (Kept.refl _ w') (p := ⟨b2, 0, none⟩) (.inl rfl) _, ?_⟩
            · go_simp
            have HX7 := Lib.hid (hx.set_ 0 (.slice A k c))
            have HB7 : RowKit.Hid (Below b2 w (w'.setCell ⟨b2, 0, none⟩ (.slice A k c))) := Lib.hid ((HB5.out.trans (Below.mono hE (Nat.le_trans Hlw.out HB5.out.size))).setCell (p := ⟨b2, 0, none⟩) (Nat.le_refl _) _)
            have HO7 := Lib.hid (own_cell_far (g := b2) (i := 0) (own_up HO5.out hE) (own_ne (own_up HO5.out hE) hx (by decide)) (.slice A k c))
            have HR7 : RowKit.Hid (RdS (w'.setCell ⟨b2, 0, none⟩ (.slice A k c)) (w'.setCell ⟨b2, 0, none⟩ (.slice A k c)).heap.size 1 Ag ng cg (rowsV f8 R)) := Lib.hid ((HRg.out.bl hE).kept_ne (kept_at w' b2 0 _) (fun a ha hn e => by have h1 := HLg.out a ha hn; have e2 : a.block = b2 := e; omega))
            obtain ⟨w7, gw7⟩ : ∃ z, w'.setCell ⟨b2, 0, none⟩ (.slice A k c) = z := ⟨_, rfl⟩
            rw [gw7] at HX7 HB7 HO7 HR7 ⊢
            clear gw7 hw' hE hx q0 f0 HX5 HB5 HO5 HRg
            try simp only [Act.put, List.setIfInBounds_toArray, List.set_cons_zero, List.set_cons_succ]
            apply wpR_next 6 (some 3)
            · simp only [List.getElem?_toArray, List.getElem?_cons_succ, List.getElem?_cons_zero]; exact rfl
            · rfl
            · kernel_rfl
            · kernel_rfl
            · kernel_rfl
            · exact fun _ _ _ _ h => h
            apply Exists.intro
            apply And.intro
            · apply yr_run; rfl; intro w' hw'; go_simp; (try with_reducible rfl)
            simp only [Act.put, List.setIfInBounds_toArray, List.set_cons_zero, List.set_cons_succ]
            apply wpR_next 7 (some 4)
            · simp only [List.getElem?_toArray, List.getElem?_cons_succ, List.getElem?_cons_zero]; exact rfl
            · rfl
            · kernel_rfl
            · kernel_rfl
            · kernel_rfl
            · exact fun _ _ _ _ h => h
            apply Exists.intro
            apply And.intro
            · apply yr_run; rfl; intro w' hw'; go_simp; (try with_reducible rfl)
            simp only [Act.put, List.setIfInBounds_toArray, List.set_cons_zero, List.set_cons_succ]
            refine wpR_done (by kernel_rfl) ?_ _
            intro wE hwE
            have HXe := Lib.hid (HX7.out.bl hwE)
            have HP := Lib.hid (Hyes.out A c Ag cg ng wE (by trivial) (own_up HO7.out hwE) (HR7.out.bl hwE) Hng.out (HB7.out.trans (Below.mono hwE (Nat.le_trans Hlw.out HB7.out.size))))
            clear hwE HX7 HB7 HO7 HR7
            go_wp2
            exact ret_whole3 rfl b2 rfl rfl rfl HXe.out Try.underlying25 rfl (by kernel_rfl) rfl HP.out
          · have q1 : (x == 0) = false := beq_eq_false_iff_ne.2 hx0
            have q2 : (x != 0) = true := bne_iff_ne.2 hx0
            have hq := Hmx.out hx0
            have Hq := Lib.hid hq
            clear hq hx0
            go_wp2_with (first
              | (go_at_call 22
                 refine (HM.out _ (own_rds hin.out.own)).mono ?_
                 rintro e w5 ⟨rfl, hb⟩
                 have hx5 := hin.out.hx.bl hb
                 have HXy := Lib.hid (hx5.set_ 0 (.slice none 0 0))
                 have HP := Lib.hid (Hno.out _ ((hin.out.kp.trans (hb.mono (Nat.le_trans Hlw.out hin.out.kp.size))).setCell (p := ⟨b2, 0, none⟩) (Nat.le_refl _) (.slice none 0 0)) Hq.out)
                 clear l1 l2 q0 f0
                 have q0 := hx5.cell (i := 0) rfl
                 have f0 := hx5.free 0
                 clear hb hx5))
            exact ret_whole3 rfl b2 rfl rfl rfl HXy.out Try.underlying25 rfl (by kernel_rfl) rfl HP.out
        · have hq : okEd B = false := by
            cases he : okEd B with
            | false => rfl
            | true =>
              obtain ⟨-, -, j3, -⟩ := okEd_got he
              rw [Gn.out] at j3
              exact absurd ⟨by omega, by omega, rfl⟩ hgo
          have HP := Lib.hid (Hno.out _ HBz.out hq)
          have q1 : ((n : Int) != (k : Int)) = true := bne_iff_ne.2 (by omega)
          have q2 : ((n : Int) == (k : Int)) = false := beq_eq_false_iff_ne.2 (by omega)
          clear hq hgo hnk
          go_wp2
          exact ret_whole3 rfl b2 rfl rfl rfl HXz.out Try.underlying25 rfl (by kernel_rfl) rfl HP.out
end Go.Proofs.Ytoiflngpjdghbaa

/- The document's Whole. -/
namespace Go.Proofs.Ytoiflngpjdghbaa
open Go.RowKit
set_option linter.unusedSimpArgs false
set_option linter.unusedVariables false

set_option maxRecDepth 100000 in
set_option maxHeartbeats 8000000 in
theorem rwhole10_any (A : Option Addr) (n c : Nat) (B : List Nat) (w : World) (hl0 : B.length = n) (h : RdS w w.heap.size 1 A n c (rowsV f8 B)) (hn : n ≤ 90000) (hb : ∀ b ∈ B, b < 256) :
    Calls Try.prog 16 #[.slice A n c] w fun e w' => ∃ A1 k1, e = .returned (.tuple #[.agg #[.slice A1 (whV B).length k1], .int .i64 (whE B)]) ∧ w'.ownsRow w.heap.size 48 20 (.slice A1 (whV B).length k1) (whV B).length (rowsV opCells (whV B)) ∧ Below w.heap.size w w' := by
  have HT := Lib.hid (rtake10_any A n c B (w.alloc (.cells #[.slice none 0 0] 25)) hl0 (h.al _) hn hb)
  have HX0 : RowKit.Hid (Whole (w.alloc (.cells #[.slice none 0 0] 25)) w.heap.size 25 [.slice none 0 0]) := Lib.hid (Whole.new_ _ _ [_])
  have HB0 : RowKit.Hid (Below w.heap.size w (w.alloc (.cells #[.slice none 0 0] 25))) := Lib.hid (below1 _ _)
  have HV : RowKit.Hid (tkV B = (if okEd B = true then rdV B else []) ∧ tkE B = (if okEd B = true then 0 else 2) ∧ tkR B = (if okEd B = true then rdR B else B)) := Lib.hid ⟨rfl, rfl, rfl⟩
  clear h hb hn hl0
  go_enter Try.func16, Try.ntmps16
  go_upto_region 1 with fail
  obtain ⟨w0, gw0⟩ : ∃ z, w.alloc (.cells #[.slice none 0 0] 25) = z := ⟨_, rfl⟩
  obtain ⟨b2, gb2⟩ : ∃ z, w.heap.size = z := ⟨_, rfl⟩
  rw [gw0] at HT HX0 HB0 ⊢
  rw [gb2] at HX0 ⊢
  have Gb2 := Lib.hid gb2
  clear gw0 gb2
  obtain ⟨L, gL⟩ : ∃ z, tkV B = z := ⟨_, rfl⟩
  obtain ⟨x, gx⟩ : ∃ z, tkE B = z := ⟨_, rfl⟩
  obtain ⟨R, gR⟩ : ∃ z, tkR B = z := ⟨_, rfl⟩
  have HT1 : RowKit.Hid (Calls Try.prog 14 #[.slice A n c] w0 fun e w' => ∃ A1 k1 A2 k2 m, e = .returned (.tuple #[.agg #[.slice A1 L.length k1], .slice A2 m k2, .int .i64 x]) ∧ m = R.length ∧ w'.ownsRow w0.heap.size 48 20 (.slice A1 L.length k1) L.length (rowsV opCells L) ∧ Below w0.heap.size w0 w') := Lib.hid (by
    refine HT.out.mono ?_
    rintro e w' ⟨A1, k1, A2, k2, m, l, rfl, rfl, h2, h3, -, h5⟩
    rw [gL] at h3
    exact ⟨A1, k1, A2, k2, m, by rw [gL, gx], by rw [← gR]; exact h2, h3, h5⟩)
  rw [gL, gx, gR] at HV
  obtain ⟨l, gl⟩ : ∃ z, L.length = z := ⟨_, rfl⟩
  rw [gl] at HT1
  have Gl := Lib.hid gl
  clear HT gL gx gR gl
  go_upto_region 2 with (first
    | (go_at_call 14
       refine HT1.out.mono ?_
       rintro e w2 ⟨A1, k1, A2, k2, m, rfl, hm, ho, hb2⟩
       have Hm := Lib.hid hm
       have HX2 := Lib.hid ((HX0.out.bl hb2).al (.cells #[.slice A1 l k1] 25))
       have HO2 := Lib.hid (own_up ho (below1 w2 (.cells #[.slice A1 l k1] 25)))
       have HB2 := Lib.hid (bel_al (bel_bl HB0.out hb2) (.cells #[.slice A1 l k1] 25))
       have HY2 : RowKit.Hid (Whole (w2.alloc (.cells #[.slice A1 l k1] 25)) w2.heap.size 25 [.slice A1 l k1]) := Lib.hid (Whole.new_ _ _ [_])
       have Hsz := Lib.hid HB0.out.size
       clear ho hb2 hm))
  obtain ⟨w3, gw3⟩ : ∃ z, w2.alloc (.cells #[.slice A1 l k1] 25) = z := ⟨_, rfl⟩
  obtain ⟨b4, gb4⟩ : ∃ z, w2.heap.size = z := ⟨_, rfl⟩
  rw [gw3] at HX2 HO2 HB2 HY2 ⊢
  rw [gb4] at HY2 ⊢
  clear gw3 gb4 HX0 HB0
  have d0 := HY2.out.cell (i := 0) rfl
  have q0 := HX2.out.cell (i := 0) rfl
  have f0 := HX2.out.free 0
  have hb2l : w.heap.size ≤ b2 := Nat.le_of_eq Gb2.out
  have hno : okW B = false → ∃ A1 k1, Ending.returned (.tuple #[.agg #[.slice none 0 0], .int .i64 2]) = .returned (.tuple #[.agg #[.slice A1 (whV B).length k1], .int .i64 (whE B)]) ∧ (w3.setCell ⟨b2, 0, none⟩ (.slice none 0 0)).ownsRow w.heap.size 48 20 (.slice A1 (whV B).length k1) (whV B).length (rowsV opCells (whV B)) ∧ Below w.heap.size w (w3.setCell ⟨b2, 0, none⟩ (.slice none 0 0)) := fun hq => by
    have e1 : whV B = [] := by unfold whV; rw [hq]; rfl
    have e2 : whE B = 2 := by unfold whE; rw [hq]; rfl
    rw [e1, e2]
    exact ⟨none, 0, rfl, World.ownsRow_nil _ _ _ _, HB2.out.setCell (p := ⟨b2, 0, none⟩) hb2l _⟩
  have Hno := Lib.hid hno
  clear hno
  cases ho : okEd B with
  | false =>
    have hv := HV.out
    rw [ho] at hv
    obtain ⟨hL, hx, -⟩ := hv
    simp only [Bool.false_eq_true, if_false] at hL hx
    subst hx
    have hW : okW B = false := by unfold okW; rw [ho]; rfl
    have HP := Lib.hid (Hno.out hW)
    have HXz := Lib.hid (HX2.out.set_ 0 (.slice none 0 0))
    clear hW hL ho
    go_wp2
    exact ret_whole2 rfl b2 rfl rfl HXz.out Try.underlying25 rfl (by kernel_rfl) rfl HP.out
  | true =>
    have hv := HV.out
    rw [ho] at hv
    obtain ⟨hL, hx, hR⟩ := hv
    simp only [if_true] at hL hx hR
    subst hx
    by_cases hr : R = []
    · have hm0 : m = 0 := by rw [Hm.out, hr]; rfl
      have hW : okW B = true := by unfold okW; rw [ho, ← hR, hr]; rfl
      have e1 : whV B = L := by unfold whV; rw [hW, hL]; rfl
      have e2 : whE B = 0 := by unfold whE; rw [hW]; rfl
      have HP : RowKit.Hid (∃ A' k', Ending.returned (.tuple #[.agg #[.slice A1 l k1], .int .i64 0]) = .returned (.tuple #[.agg #[.slice A' (whV B).length k'], .int .i64 (whE B)]) ∧ (w3.setCell ⟨b2, 0, none⟩ (.slice A1 l k1)).ownsRow w.heap.size 48 20 (.slice A' (whV B).length k') (whV B).length (rowsV opCells (whV B)) ∧ Below w.heap.size w (w3.setCell ⟨b2, 0, none⟩ (.slice A1 l k1))) := Lib.hid (by
        rw [e1, e2, Gl.out]
        exact ⟨A1, k1, rfl, own_lo8 (own_cell_far HO2.out (own_ne HO2.out HX2.out (by decide)) _) Hsz.out, HB2.out.setCell (p := ⟨b2, 0, none⟩) hb2l _⟩)
      have HXz := Lib.hid (HX2.out.set_ 0 (.slice A1 l k1))
      subst hm0
      clear hW hL ho hR hr e1 e2
      go_wp2
      exact ret_whole2 rfl b2 rfl rfl HXz.out Try.underlying25 rfl (by kernel_rfl) rfl HP.out
    · have hm0 : 0 < m := by
        rw [Hm.out]
        exact List.length_pos_iff.2 hr
      have hm1 : (0 : Int) < (m : Int) := by omega
      have hW : okW B = false := by unfold okW; rw [ho, ← hR, decide_eq_false hr]; rfl
      have HP := Lib.hid (Hno.out hW)
      have HXz := Lib.hid (HX2.out.set_ 0 (.slice none 0 0))
      clear hW hL ho hR hr
      go_wp2
      exact ret_whole2 rfl b2 rfl rfl HXz.out Try.underlying25 rfl (by kernel_rfl) rfl HP.out

end Go.Proofs.Ytoiflngpjdghbaa

/- OpcodeTakes' walk. -/
namespace Go.Proofs.Ytoiflngpjdghbaa
open Go.RowKit
set_option linter.unusedSimpArgs false
set_option linter.unusedVariables false

theorem tkV_len {B : List Nat} (hb : ∀ b ∈ B, b < 256) : (tkV B).length ≤ 255 := by
  have h1 := byte_lt hb
  unfold tkV
  split
  · unfold rdV
    rw [edV_len]
    omega
  · exact Nat.zero_le _
theorem whV_len {B : List Nat} (hb : ∀ b ∈ B, b < 256) : (whV B).length ≤ 255 := by
  have h1 := byte_lt hb
  unfold whV
  split
  · unfold rdV
    rw [edV_len]
    omega
  · exact Nat.zero_le _
set_option maxRecDepth 100000 in
set_option maxHeartbeats 16000000 in
theorem law_takes10 (Am : Option Addr) (nm cm : Nat) (M : List Nat) (w : World) (hm : RdS w w.heap.size 1 Am nm cm (rowsV f8 M)) (hMb : ∀ b ∈ M, b < 256) :
    Calls Try.prog 4 #[.slice Am nm cm] w fun e w' => e = .returned (.bool true) ∧ Below w.heap.size w w' := by
  have HRm := Lib.hid hm
  have HMl : RowKit.Hid (M.length = nm) := Lib.hid (hm.rlen f8_len (by decide))
  have HMb := Lib.hid hMb
  have hmc := hm.le
  clear hm hMb
  go_enter Try.func4, Try.ntmps4
  go_upto_if 19 with (first
    | (go_at_call 9
       refine (shown10_any _).mono ?_
       rintro e w1 ⟨rfl, hb⟩
       have HRm1 := Lib.hid (HRm.out.bl hb)
       have HB1 : RowKit.Hid (Below w.heap.size w w1) := Lib.hid hb
       clear hb HRm))
  go_cut [0] (fun v z => ∃ (n9 : Nat) (M9 : List Nat), v = .slice Am n9 cm ∧ n9 ≤ 400 ∧ M9.length = n9 ∧ (∀ b ∈ M9, b < 256) ∧ RdS w1 w1.heap.size 1 Am n9 cm (rowsV f8 M9) ∧ w1 = z)
  case first =>
    by_cases hq : 400 < nm
    · have ht : (400 : Int) < (nm : Int) := by omega
      have h50 : 400 ≤ cm := by omega
      go_wp2_with fail
      go_meet
      refine ⟨400, M.take 400, rfl, Nat.le_refl _, by rw [List.length_take, HMl.out]; omega, fun b hb => HMb.out b (List.mem_of_mem_take hb), ?_, rfl⟩
      have t1 := HRm1.out.take_ 400 (by omega)
      rw [rowsV_map8] at t1 ⊢
      rw [List.map_take]
      exact t1
    · have ht : ¬ (400 : Int) < (nm : Int) := by omega
      go_wp2_with fail
      go_meet
      exact ⟨nm, M, rfl, by omega, HMl.out, HMb.out, HRm1.out, rfl⟩
  case rest =>
  obtain ⟨n9, M9, rfl, hn9, hM9, hMb9, hr9, hz⟩ := hcut
  subst hz
  have HRm2 := Lib.hid hr9
  have hvl := tkV_len hMb9
  have hul := whV_len hMb9
  have HT := Lib.hid (fun A c W (h : RdS W W.heap.size 1 A n9 c (rowsV f8 M9)) => otake_any A c M9 W (hM9.symm ▸ h) (by omega) hMb9)
  have HD := Lib.hid (fun W (h : RdS W W.heap.size 1 Am n9 cm (rowsV f8 M9)) => rtake10_any Am n9 cm M9 W hM9 h (by omega) hMb9)
  have HW := Lib.hid (fun A c W (h : RdS W W.heap.size 1 A n9 c (rowsV f8 M9)) => owhole_any A c M9 W (hM9.symm ▸ h) (by omega) hMb9)
  have HE := Lib.hid (fun W (h : RdS W W.heap.size 1 Am n9 cm (rowsV f8 M9)) => rwhole10_any Am n9 cm M9 W hM9 h (by omega) hMb9)
  unfold GivesTk at HT
  unfold GivesTR at HD
  rw [hM9] at HT HW
  obtain ⟨V, gV⟩ : ∃ z, tkV M9 = z := ⟨_, rfl⟩
  obtain ⟨R, gR⟩ : ∃ z, tkR M9 = z := ⟨_, rfl⟩
  obtain ⟨x, gx⟩ : ∃ z, tkE M9 = z := ⟨_, rfl⟩
  obtain ⟨U, gU⟩ : ∃ z, whV M9 = z := ⟨_, rfl⟩
  obtain ⟨y, gy⟩ : ∃ z, whE M9 = z := ⟨_, rfl⟩
  have hRb : ∀ b ∈ R, b < 256 := by
    rw [← gR]
    unfold tkR
    split
    · exact (rdR_suf M9).lt hMb9
    · exact hMb9
  have hte := txt_eq hRb hRb
  rw [decide_eq_true rfl] at hte
  have Hte := Lib.hid hte
  rw [gV, gR, gx] at HT HD
  rw [gU, gy] at HW HE
  rw [gV] at hvl
  rw [gU] at hul
  obtain ⟨l, gl⟩ : ∃ z, V.length = z := ⟨_, rfl⟩
  obtain ⟨l2, gl2⟩ : ∃ z, U.length = z := ⟨_, rfl⟩
  obtain ⟨m, gm⟩ : ∃ z, R.length = z := ⟨_, rfl⟩
  rw [gl, gm] at HT HD
  rw [gl2] at HW HE
  rw [gl] at hvl
  rw [gl2] at hul
  clear hr9 hMb9 hM9 hmc HRm1 HMl HMb gV gR gx gU gy hRb hte gl gl2 gm
  have hO4 : Ow w1 w1.heap.size 5 1 (.slice (some ⟨w1.heap.size, 0, none⟩) 0 0) 0 (rowsV f8 []) (w1.alloc (.cells #[] 5)) := Ow.new_ (cs := #[]) (Below.refl _ _) (Nat.le_refl _) (Nat.le_refl _) (Nat.zero_le _) rfl
  obtain ⟨Ac4, cc4, wc4, hrun4, ho4, -⟩ := app8 22 hO4 (HRm2.out.al (.cells #[] 5)) (by omega)
  rw [Nat.zero_add, List.nil_append] at ho4
  rw [Nat.zero_add] at hrun4
  have hbc := ho4.below
  have HRm3 := Lib.hid (HRm2.out.bl hbc)
  have HB3 := Lib.hid (bel_bl HB1.out hbc)
  have hOc := own_rds ho4.own
  have HOc := Lib.hid hOc
  clear HRm2 HB1
  clear hO4 ho4 hbc hOc
  go_upto_region 5 with (first
    | (at_builtin
       refine wl_run (some 25) rfl (by rfl) (exec_append (by rfl) (by rfl) (by rfl) hrun4) ?_
       clear hrun4)
    | (go_at_call 13
       refine (HT.out Ac4 cc4 wc4 HOc.out).mono ?_
       rintro e w' ⟨A1, k1, A2, k2, m_, rfl, hm_, ho1, ho2, hb⟩
       replace hm_ := hm_.symm
       subst hm_
       have HRm4 := Lib.hid ((HRm3.out.bl hb).al (.cells #[.slice A1 l k1] 25))
       have HB4 := Lib.hid (bel_al (bel_bl HB3.out hb) (.cells #[.slice A1 l k1] 25))
       have HV4 := Lib.hid ((own_rds ho1).al (.cells #[.slice A1 l k1] 25))
       have HR4 := Lib.hid ((own_rds ho2).al (.cells #[.slice A1 l k1] 25))
       have HXb44 : RowKit.Hid (Whole (w'.alloc (.cells #[.slice A1 l k1] 25)) w'.heap.size 25 [.slice A1 l k1]) := Lib.hid (Whole.new_ _ _ [_])
       clear hb ho1 ho2))
  clear HRm3 HB3
  obtain ⟨w4, gw4⟩ : ∃ z, w'.alloc (.cells #[.slice A1 l k1] 25) = z := ⟨_, rfl⟩
  obtain ⟨b4, gb4⟩ : ∃ z, w'.heap.size = z := ⟨_, rfl⟩
  rw [gw4] at HRm4 HB4 HV4 HR4 HXb44 ⊢
  rw [gb4] at HXb44 ⊢
  clear gw4 gb4
  go_upto_region 6 with (first
    | (go_at_call 14
       refine (HD.out _ HRm4.out).mono ?_
       rintro e w' ⟨A3, k3, A4, k4, m_, l_, rfl, hl_, hm_, ho1, ho2, hb⟩
       replace hm_ := hm_.symm
       subst hm_
       replace hl_ := hl_.symm
       subst hl_
       have HRm5 := Lib.hid ((HRm4.out.bl hb).al (.cells #[.slice A3 l k3] 25))
       have HB5 := Lib.hid (bel_al (bel_bl HB4.out hb) (.cells #[.slice A3 l k3] 25))
       have HV5 := Lib.hid ((HV4.out.bl hb).al (.cells #[.slice A3 l k3] 25))
       have HR5 := Lib.hid ((HR4.out.bl hb).al (.cells #[.slice A3 l k3] 25))
       have HXb45 := Lib.hid ((HXb44.out.bl hb).al (.cells #[.slice A3 l k3] 25))
       have HV25 := Lib.hid ((own_rds ho1).al (.cells #[.slice A3 l k3] 25))
       have HR25 := Lib.hid ((ho2).al (.cells #[.slice A3 l k3] 25))
       have HXb75 : RowKit.Hid (Whole (w'.alloc (.cells #[.slice A3 l k3] 25)) w'.heap.size 25 [.slice A3 l k3]) := Lib.hid (Whole.new_ _ _ [_])
       clear hb ho1 ho2))
  clear HRm4 HB4 HV4 HR4 HXb44
  obtain ⟨w5, gw5⟩ : ∃ z, w'.alloc (.cells #[.slice A3 l k3] 25) = z := ⟨_, rfl⟩
  obtain ⟨b7, gb7⟩ : ∃ z, w'.heap.size = z := ⟨_, rfl⟩
  rw [gw5] at HRm5 HB5 HV5 HR5 HXb45 HV25 HR25 HXb75 ⊢
  rw [gb7] at HXb75 ⊢
  clear gw5 gb7
  have hO6 : Ow w5 w5.heap.size 5 1 (.slice (some ⟨w5.heap.size, 0, none⟩) 0 0) 0 (rowsV f8 []) (w5.alloc (.cells #[] 5)) := Ow.new_ (cs := #[]) (Below.refl _ _) (Nat.le_refl _) (Nat.le_refl _) (Nat.zero_le _) rfl
  obtain ⟨Ac6, cc6, wc6, hrun6, ho6, -⟩ := app8 22 hO6 (HRm5.out.al (.cells #[] 5)) (by omega)
  rw [Nat.zero_add, List.nil_append] at ho6
  rw [Nat.zero_add] at hrun6
  have hbc := ho6.below
  have HRm6 := Lib.hid (HRm5.out.bl hbc)
  have HB6 := Lib.hid (bel_bl HB5.out hbc)
  have HV6 := Lib.hid (HV5.out.bl hbc)
  have HR6 := Lib.hid (HR5.out.bl hbc)
  have HXb46 := Lib.hid (HXb45.out.bl hbc)
  have HV26 := Lib.hid (HV25.out.bl hbc)
  have HR26 := Lib.hid (HR25.out.bl hbc)
  have HXb76 := Lib.hid (HXb75.out.bl hbc)
  have hOc := own_rds ho6.own
  have HOc6 := Lib.hid hOc
  clear HRm5 HB5 HV5 HR5 HXb45 HV25 HR25 HXb75
  clear hO6 ho6 hbc hOc
  go_upto_region 7 with (first
    | (at_builtin
       refine wl_run (some 39) rfl (by rfl) (exec_append (by rfl) (by rfl) (by rfl) hrun6) ?_
       clear hrun6)
    | (go_at_call 15
       refine (HW.out Ac6 cc6 wc6 HOc6.out).mono ?_
       rintro e w' ⟨A5, k5, rfl, ho1, hb⟩
       have HRm7 := Lib.hid ((HRm6.out.bl hb).al (.cells #[.slice A5 l2 k5] 25))
       have HB7 := Lib.hid (bel_al (bel_bl HB6.out hb) (.cells #[.slice A5 l2 k5] 25))
       have HV7 := Lib.hid ((HV6.out.bl hb).al (.cells #[.slice A5 l2 k5] 25))
       have HR7 := Lib.hid ((HR6.out.bl hb).al (.cells #[.slice A5 l2 k5] 25))
       have HXb47 := Lib.hid ((HXb46.out.bl hb).al (.cells #[.slice A5 l2 k5] 25))
       have HV27 := Lib.hid ((HV26.out.bl hb).al (.cells #[.slice A5 l2 k5] 25))
       have HR27 := Lib.hid ((HR26.out.bl hb).al (.cells #[.slice A5 l2 k5] 25))
       have HXb77 := Lib.hid ((HXb76.out.bl hb).al (.cells #[.slice A5 l2 k5] 25))
       have HU7 := Lib.hid ((own_rds ho1).al (.cells #[.slice A5 l2 k5] 25))
       have HXb107 : RowKit.Hid (Whole (w'.alloc (.cells #[.slice A5 l2 k5] 25)) w'.heap.size 25 [.slice A5 l2 k5]) := Lib.hid (Whole.new_ _ _ [_])
       clear hb ho1))
  clear HRm6 HB6 HV6 HR6 HXb46 HV26 HR26 HXb76
  obtain ⟨w7, gw7⟩ : ∃ z, w'.alloc (.cells #[.slice A5 l2 k5] 25) = z := ⟨_, rfl⟩
  obtain ⟨b10, gb10⟩ : ∃ z, w'.heap.size = z := ⟨_, rfl⟩
  rw [gw7] at HRm7 HB7 HV7 HR7 HXb47 HV27 HR27 HXb77 HU7 HXb107 ⊢
  rw [gb10] at HXb107 ⊢
  clear gw7 gb10
  go_upto_region 8 with (first
    | (go_at_call 16
       refine (HE.out _ HRm7.out).mono ?_
       rintro e w' ⟨A6, k6, rfl, ho1, hb⟩
       have HRm8 := Lib.hid ((HRm7.out.bl hb).al (.cells #[.slice A6 l2 k6] 25))
       have HB8 := Lib.hid (bel_al (bel_bl HB7.out hb) (.cells #[.slice A6 l2 k6] 25))
       have HV8 := Lib.hid ((HV7.out.bl hb).al (.cells #[.slice A6 l2 k6] 25))
       have HR8 := Lib.hid ((HR7.out.bl hb).al (.cells #[.slice A6 l2 k6] 25))
       have HXb48 := Lib.hid ((HXb47.out.bl hb).al (.cells #[.slice A6 l2 k6] 25))
       have HV28 := Lib.hid ((HV27.out.bl hb).al (.cells #[.slice A6 l2 k6] 25))
       have HR28 := Lib.hid ((HR27.out.bl hb).al (.cells #[.slice A6 l2 k6] 25))
       have HXb78 := Lib.hid ((HXb77.out.bl hb).al (.cells #[.slice A6 l2 k6] 25))
       have HU8 := Lib.hid ((HU7.out.bl hb).al (.cells #[.slice A6 l2 k6] 25))
       have HXb108 := Lib.hid ((HXb107.out.bl hb).al (.cells #[.slice A6 l2 k6] 25))
       have HU28 := Lib.hid ((own_rds ho1).al (.cells #[.slice A6 l2 k6] 25))
       have HXb128 : RowKit.Hid (Whole (w'.alloc (.cells #[.slice A6 l2 k6] 25)) w'.heap.size 25 [.slice A6 l2 k6]) := Lib.hid (Whole.new_ _ _ [_])
       clear hb ho1))
  clear HRm7 HB7 HV7 HR7 HXb47 HV27 HR27 HXb77 HU7 HXb107
  obtain ⟨w8, gw8⟩ : ∃ z, w'.alloc (.cells #[.slice A6 l2 k6] 25) = z := ⟨_, rfl⟩
  obtain ⟨b12, gb12⟩ : ∃ z, w'.heap.size = z := ⟨_, rfl⟩
  rw [gw8] at HRm8 HB8 HV8 HR8 HXb48 HV28 HR28 HXb78 HU8 HXb108 HU28 HXb128 ⊢
  rw [gb12] at HXb128 ⊢
  clear gw8 gb12
  have d4 := HXb48.out.cell (i := 0) rfl
  have d7 := HXb78.out.cell (i := 0) rfl
  have hs := rsame_any A1 A3 l l k1 k3 V V w8 HV8.out HV28.out (by unfold maxLen; omega)
  rw [decide_eq_true (rfl : V = V)] at hs
  have HS9 := Lib.hid hs
  clear hs
  go_upto_region 9 with (first
    | (go_at_call 17
       refine HS9.out.mono ?_
       rintro e w9 ⟨rfl, hb⟩
       have HRm9 := Lib.hid (HRm8.out.bl hb)
       have HB9 := Lib.hid (bel_bl HB8.out hb)
       have HV9 := Lib.hid (HV8.out.bl hb)
       have HR9 := Lib.hid (HR8.out.bl hb)
       have HXb49 := Lib.hid (HXb48.out.bl hb)
       have HV29 := Lib.hid (HV28.out.bl hb)
       have HR29 := Lib.hid (HR28.out.bl hb)
       have HXb79 := Lib.hid (HXb78.out.bl hb)
       have HU9 := Lib.hid (HU8.out.bl hb)
       have HXb109 := Lib.hid (HXb108.out.bl hb)
       have HU29 := Lib.hid (HU28.out.bl hb)
       have HXb129 := Lib.hid (HXb128.out.bl hb)
       clear hb d4 d7))
  clear HRm8 HB8 HV8 HR8 HXb48 HV28 HR28 HXb78 HU8 HXb108 HU28 HXb128
  have d10 := HXb109.out.cell (i := 0) rfl
  have d12 := HXb129.out.cell (i := 0) rfl
  have hs := rsame_any A5 A6 l2 l2 k5 k6 U U w9 HU9.out HU29.out (by unfold maxLen; omega)
  rw [decide_eq_true (rfl : U = U)] at hs
  have HS10 := Lib.hid hs
  clear hs
  go_upto_region 10 with (first
    | (go_at_call 17
       refine HS10.out.mono ?_
       rintro e w10 ⟨rfl, hb⟩
       have HRm10 := Lib.hid (HRm9.out.bl hb)
       have HB10 := Lib.hid (bel_bl HB9.out hb)
       have HV10 := Lib.hid (HV9.out.bl hb)
       have HR10 := Lib.hid (HR9.out.bl hb)
       have HXb410 := Lib.hid (HXb49.out.bl hb)
       have HV210 := Lib.hid (HV29.out.bl hb)
       have HR210 := Lib.hid (HR29.out.bl hb)
       have HXb710 := Lib.hid (HXb79.out.bl hb)
       have HU10 := Lib.hid (HU9.out.bl hb)
       have HXb1010 := Lib.hid (HXb109.out.bl hb)
       have HU210 := Lib.hid (HU29.out.bl hb)
       have HXb1210 := Lib.hid (HXb129.out.bl hb)
       clear hb d10 d12))
  clear HRm9 HB9 HV9 HR9 HXb49 HV29 HR29 HXb79 HU9 HXb109 HU29 HXb129
  have hc1 := conv_txt HR10.out
  have hc2 := conv_txt HR210.out
  have hte := Hte.out
  go_wp2
  go_ret
  exact ⟨by simp, HB10.out⟩
end Go.Proofs.Ytoiflngpjdghbaa

/- 'OpcodeTakes' answers true for every row of bytes.
   No condition beyond the row's own. -/
namespace Go.Proofs.Ytoiflngpjdghbaa
open Go.ChangeShapes Go.WideShapes Go.ChangeAt Go.RowKit
namespace lawOpcodeTakes

set_option maxRecDepth 100000 in
theorem contract (H : Type) (enc : TypeId × Value → H) (W : World) (base : Nat) (args : Array Value) (ds gs : List (DataW H)) (before : List MemPlace)
    (hval : ∀ (j : Nat) t v, Try.f4.params[j]? = some t → args[j]? = some v → Value.okWide Try.prog W .any base t v)
    (hW : DataW.Whole enc Try.prog Try.f4.params.toList Rows.opcodeTakesSpec.vars false W args.toList ds gs before) :
    Calls Try.prog 4 args W fun e W' => ∃ v, e = .returned v ∧ Rows.opcodeTakesSpec.post enc Try.prog Try.f4 false true false false W args v W' := by
  have hW' := hW
  obtain ⟨p, q, hA, hV, rfl, hfz, hnd⟩ := hW
  obtain ⟨rfl, rfl⟩ := trodVars_none hV
  rw [Try.params4] at hA hval
  obtain ⟨v0, d0, rfl, rfl, h0⟩ := trodAll_one hA
  obtain ⟨m, rfl, hx0⟩ := open_row1_slice (row1_byte H) Try.underlying22 (by kernel_rfl) f8_len (by decide) (hval 0 22 v0 rfl rfl) h0
  refine (law_takes10 m.1 m.2.1 m.2.2.1 m.2.2.2 W hx0.2.1 hx0.2.2).mono fun e W' ⟨he, hb⟩ => ⟨_, he, ?_⟩
  exact law_post Try.laidOut (by kernel_rfl) (tb := 4) (by kernel_rfl) Try.underlying4 rfl ⟨rfl, rfl, rfl⟩ hW' hb

set_option maxRecDepth 100000 in
theorem lifted (os : Os) (started : os.Started) (H : Type) (enc : TypeId × Value → H) :
    ReturnsInHanded {} Try.checked os 4 .any (Rows.opcodeTakesSpec.pre6 enc Try.prog Try.f4 Rows.opcodeTakesRow.domain false) (Rows.opcodeTakesSpec.post enc Try.prog Try.f4 false true false false) := by
  refine returnsInHanded_of_change (C := Try.checked) Try.own started (by kernel_rfl) Try.func4
    (ChangeSpec.witness6 (enc := enc) (C := Try.checked) false ⟨#[], #[.slice none 0 0], []⟩ 8 (by kernel_rfl) (by kernel_rfl) (by kernel_rfl) (by kernel_rfl)) ?_
  intro W base args ds gs before hval hW _ _
  exact contract H enc W base args ds gs before hval hW

theorem proved : Rows.OpcodeTakesSaid :=
  OpenClaim.holds_of_wide 4 Try.f4 rfl rfl rfl rfl rfl rfl rfl ⟨rfl, rfl, rfl, rfl, rfl⟩ rfl rfl rfl rfl rfl (by kernel_rfl) Try.func4 (by kernel_rfl)
    (of_decide_eq_true (by kernel_rfl)) (by unfold Func.isWrapper; first | (rw [if_pos (by decide +kernel)]; kernel_rfl) | (rw [if_neg (by decide +kernel)]; exact ⟨rfl, rfl⟩))
    (fun os started H enc _ => lifted os started H enc)
end lawOpcodeTakes
end Go.Proofs.Ytoiflngpjdghbaa
