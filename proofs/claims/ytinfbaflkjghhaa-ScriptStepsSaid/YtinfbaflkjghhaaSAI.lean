/- Several texts in one. -/
import Derived.Test.YtinfbaflkjghhaaSAA
import Derived.Test.YtinfbaflkjghhaaSAH
import Derived.Test.YtinfbaflkjghhaaSAG
import Derived.Test.YtinfbaflkjghhaaSAE
/- The document's Take. -/
set_option linter.unusedSimpArgs false
set_option linter.unusedVariables false
namespace Go.Proofs.Ytinfbaflkjghhaa
open Go.RowKit
theorem okN_snoc : ∀ (k : Nat) (L : List Nat), okN (k + 1) L = (okN k L && okO (edL k L))
  | 0, L => by
    show (okO L && true) = (true && okO L)
    rw [Bool.and_true, Bool.true_and]
  | k + 1, L => by
    show (okO L && okN (k + 1) (opL L)) = ((okO L && okN k (opL L)) && okO (edL k (opL L)))
    rw [okN_snoc k, Bool.and_assoc]
theorem okN_le : ∀ {n k : Nat} (L : List Nat), k ≤ n → okN n L = true → okN k L = true
  | n, 0, _, _, _ => rfl
  | 0, k + 1, _, h, _ => absurd h (by omega)
  | n + 1, k + 1, L, h, q => by
    have h9 := Bool.and_eq_true_iff.1 (show (okO L && okN n (opL L)) = true from q)
    show (okO L && okN k (opL L)) = true
    rw [h9.1, okN_le (opL L) (by omega) h9.2]
    rfl
theorem fdV_t {k : Nat} {x : Int × Int} {M : List Nat} (hb : ∀ b ∈ M, b < 256) : (fdV k x M).t.size ≤ 255 := by
  unfold fdV
  by_cases k3 : k = 3
  · rw [if_pos k3]; exact Nat.zero_le _
  rw [if_neg k3]
  by_cases k5 : k = 5
  · rw [if_pos k5]; exact Nat.zero_le _
  rw [if_neg k5]
  by_cases k6 : k = 6
  · rw [if_pos k6]; exact Nat.zero_le _
  rw [if_neg k6]
  by_cases k7 : k = 7
  · rw [if_pos k7]
    show (txT (M.drop 1)).size ≤ 255
    unfold txT
    split
    · rw [txt_size, List.length_take]
      have := byte_lt (drop_lt hb 1)
      omega
    · exact Nat.zero_le _
  rw [if_neg k7]
  by_cases k8 : k = 8
  · rw [if_pos k8]; exact Nat.zero_le _
  rw [if_neg k8]
  exact Nat.zero_le _
theorem edV_t : ∀ (n : Nat) {L : List Nat}, (∀ b ∈ L, b < 256) → ∀ o ∈ edV n L, o.t.size ≤ 255
  | 0, _, _, _, h => by cases h
  | n + 1, L, hb, o, h => by
    rcases List.mem_cons.1 (show o ∈ opV L :: edV n (opL L) from h) with rfl | h
    · exact fdV_t (lI_lt (drop_lt hb 1))
    · exact edV_t n (opL_lt hb) o h
theorem okEd_got {B : List Nat} (h : okEd B = true) : okN (c1 B) (B.drop 1) = true ∧ 1 ≤ B.length ∧ c1 B ≤ 6 ∧ mayE (rdV B) = 0 := by
  have h1 := okEd_is h
  obtain ⟨-, -, h4, h5, h6⟩ := isE_rd h1
  have h7 := mayE_ok h1.1
  exact ⟨h4, h5, by omega, h1.1⟩
/-- How a round of the document's Take stands. -/
structure EdR (lo g b2 b7 : Nat) (B1 : Bool) (L0 : List Nat) (w : World) (k : Nat) (A : Option Addr) (c : Nat) (R : List Nat) (bad : Bool) (Os : List OpT) (W : World) : Prop where
  cu : RrAt lo W g R bad
  hy : Whole W b7 28 [.slice A k c]
  hx : Whole W b2 28 [.slice none 0 0]
  own : W.ownsRow lo 53 20 (.slice A k c) k (rowsV opCells Os)
  kp : Below lo w W
  st : bad = (B1 || !okN k L0)
  vl : okN k L0 = true → Os = edV k L0 ∧ R = edL k L0
theorem EdR.bl {lo g b2 b7 k c : Nat} {B1 bad : Bool} {L0 R : List Nat} {Os : List OpT} {w W W' : World} {A : Option Addr} (h : EdR lo g b2 b7 B1 L0 w k A c R bad Os W) (hlo : lo ≤ w.heap.size) (hb : Below W.heap.size W W') : EdR lo g b2 b7 B1 L0 w k A c R bad Os W' :=
  ⟨h.cu.bl hb, h.hy.bl hb, h.hx.bl hb, own_up h.own hb, h.kp.trans (hb.mono (Nat.le_trans hlo h.kp.size)), h.st, h.vl⟩
/-- What the document's Take tells. -/
def GivesTR (w : World) (B : List Nat) (e : Ending) (w' : World) : Prop :=
  ∃ A1 k1 A2 k2 m l, e = .returned (.tuple #[.agg #[.slice A1 l k1], .slice A2 m k2, .int .i64 (tkE B)]) ∧ l = (tkV B).length ∧ m = (tkR B).length ∧ w'.ownsRow w.heap.size 53 20 (.slice A1 l k1) l (rowsV opCells (tkV B)) ∧ RdS w' w'.heap.size 1 A2 m k2 (rowsV f8 (tkR B)) ∧ Below w.heap.size w w'
set_option maxRecDepth 100000 in
set_option maxHeartbeats 8000000 in
theorem rtake10_any (A0 : Option Addr) (n0 c0 : Nat) (B : List Nat) (w : World) (hl0 : B.length = n0) (h : RdS w w.heap.size 1 A0 n0 c0 (rowsV f8 B)) (hn0 : n0 ≤ 90000) (hb : ∀ b ∈ B, b < 256) :
    Calls Try.prog 39 #[.slice A0 n0 c0] w (GivesTR w B) := by
  obtain ⟨i0, hi, hz0, hz1, hz2⟩ := info_parts_ info_op
  have HR0 := Lib.hid h
  have HX0 : RowKit.Hid (Whole ((w.alloc (.cells #[.slice none 0 0] 28)).alloc (.cells #[.slice A0 n0 c0, .bool false] 107)) w.heap.size 28 [.slice none 0 0]) := Lib.hid ((Whole.new_ w 28 [_]).al _)
  have HG0 : RowKit.Hid (Whole ((w.alloc (.cells #[.slice none 0 0] 28)).alloc (.cells #[.slice A0 n0 c0, .bool false] 107)) (w.heap.size + 1) 107 [.slice A0 n0 c0, .bool false]) := Lib.hid (Whole.new2 (by simp))
  have HB0 : RowKit.Hid (Below w.heap.size w ((w.alloc (.cells #[.slice none 0 0] 28)).alloc (.cells #[.slice A0 n0 c0, .bool false] 107))) := Lib.hid (below2 w _ _)
  have HC0 : RowKit.Hid (RrAt w.heap.size ((w.alloc (.cells #[.slice none 0 0] 28)).alloc (.cells #[.slice A0 n0 c0, .bool false] 107)) (w.heap.size + 1) B false) := Lib.hid ⟨A0, n0, c0, HG0.out, (HR0.out.al _).al _, by omega, fun a ha h0 => h.low a ha h0, by omega, hb⟩
  have Hb := Lib.hid hb
  have Hl0 := Lib.hid hl0
  have hlt := byte_lt hb
  obtain ⟨n, gn⟩ : ∃ z, c1 B = z := ⟨_, rfl⟩
  obtain ⟨L0, gL0⟩ : ∃ z, B.drop 1 = z := ⟨_, rfl⟩
  obtain ⟨B1, gB1⟩ : ∃ z, (!decide (1 ≤ B.length)) = z := ⟨_, rfl⟩
  have HN1 : RowKit.Hid (∀ lo g W, RrAt lo W g B false → Calls Try.prog 60 #[.pointer (some ⟨g, 0, none⟩)] W fun e w' => e = .returned (.int .i64 (n : Int)) ∧ Rr1 lo W w' g L0 B1) := Lib.hid (fun lo g W hc => by
    have h1 := rone_any lo g B false W hc
    rw [gn, gL0, gB1] at h1
    exact h1)
  rw [gn] at hlt
  have Gn := Lib.hid gn
  have GL0 := Lib.hid gL0
  have GB1 := Lib.hid gB1
  clear h hb hl0 gn gL0 gB1 HG0
  go_enter Try.func39, Try.ntmps39
  go_upto_region 2 with fail
  obtain ⟨w0, gw0⟩ : ∃ z, (w.alloc (.cells #[.slice none 0 0] 28)).alloc (.cells #[.slice A0 n0 c0, .bool false] 107) = z := ⟨_, rfl⟩
  obtain ⟨g, gg⟩ : ∃ z, w.heap.size + 1 = z := ⟨_, rfl⟩
  rw [gw0] at HX0 HB0 HC0 ⊢
  rw [gg] at HC0 ⊢
  obtain ⟨b2, gb2⟩ : ∃ z, w.heap.size = z := ⟨_, rfl⟩
  rw [gb2] at HX0 HC0 HB0 ⊢
  have Gb2 := Lib.hid gb2
  have Hg : RowKit.Hid (b2 < g) := Lib.hid (by omega)
  clear gw0 gb2 gg
  go_upto_region 5 with (first
    | (go_at_call 60
       refine (HN1.out _ _ _ HC0.out).mono ?_
       rintro e w1 ⟨rfl, hcu⟩
       have HS1 : RowKit.Hid (EdR b2 g b2 w1.heap.size B1 L0 w 0 none 0 L0 B1 [] (w1.alloc (.cells #[.slice none 0 0] 28))) := Lib.hid ⟨hcu.1.al _, Whole.new_ _ _ [_], (hcu.2.whole HX0.out (fun e => by have h1 : b2 = g := e; have := Hg.out; omega)).al _, World.ownsRow_nil _ _ _ _, (by
         have h1 : Below b2 w w1 := HB0.out.trans (hcu.2.below (Nat.le_trans (Nat.le_of_eq Gb2.out.symm) HB0.out.size) (fun i hi e => by have h1 : i = g := e; have := Hg.out; omega))
         exact h1.alloc (Nat.le_trans (Nat.le_of_eq Gb2.out.symm) h1.size) _), by show B1 = (B1 || !true); rw [Bool.not_true, Bool.or_false], fun _ => ⟨rfl, rfl⟩⟩
       have Hb7 : RowKit.Hid (g < w1.heap.size ∧ b2 < w1.heap.size) := Lib.hid ⟨hcu.1.lt, by have := hcu.1.lt; have := Hg.out; omega⟩
       clear hcu))
  obtain ⟨w2, gw2⟩ : ∃ z, w1.alloc (.cells #[.slice none 0 0] 28) = z := ⟨_, rfl⟩
  obtain ⟨b7, gb7⟩ : ∃ z, w1.heap.size = z := ⟨_, rfl⟩
  rw [gw2] at HS1 ⊢
  rw [gb7] at HS1 Hb7 ⊢
  clear gw2 gb7 HX0 HB0 HC0 HN1
  go_loopw [8] (fun i wr => ∃ (k : Nat) (A : Option Addr) (c : Nat) (R : List Nat) (bad : Bool) (Os : List OpT), k ≤ n ∧ k ≤ 7 ∧ i = .int .i64 (k : Int) ∧ RowKit.Hid (EdR b2 g b2 b7 B1 L0 w k A c R bad Os wr)) (fun i _ => 7 - (intOf i).toNat)
  case atStart => exact ⟨0, none, 0, L0, B1, [], Nat.zero_le _, Nat.zero_le _, rfl, HS1⟩
  case round =>
    clear HS1
    obtain ⟨k, A, c, R, bad, Os, hk, hk7, rfl, hin⟩ := hrel
    by_cases hgo : k < n ∧ k ≤ 6 ∧ bad = false
    · obtain ⟨hk1, hk2, rfl⟩ := hgo
      have hi1 : (k : Int) < (n : Int) := by omega
      have hi2 : (k : Int) ≤ 6 := by omega
      have HRk := Lib.hid (fun W hc => rrop_any b2 g R false W hc)
      have l1 := hin.out.cu.cell1
      go_upto_region 7 with fail
      clear l1 hi1 hi2
      have HD : RowKit.Hid (Ext wr wr.drew) := Lib.hid (below_drewN wr.heap.size wr 1)
      have hne3 := own_ne hin.out.own hin.out.hy (by decide)
      have hneg : some g ≠ (Value.slice A k c).ownBlock := by
        obtain ⟨A1, n1, c1', q1, -, -, -, -⟩ := hin.out.cu
        exact own_ne hin.out.own q1 (by decide)
      have Hneg := Lib.hid hneg
      have hg3 : g ≠ b7 := by have := Hb7.out; omega
      have ld0 : ∀ w', Kept (fun i => i = g ∨ some i = (Value.slice A k c).ownBlock) wr.drew w' → w'.cell? ⟨b7, 0, none⟩ = some (.slice A k c) := fun w' hh => hh.cell (hin.out.hy.dr.cell (i := 0) rfl) (fun e => by
        rcases e with e | e
        · exact hg3 e.symm
        · exact hne3 e)
      have Hlw : RowKit.Hid (b2 ≤ w.heap.size) := Lib.hid (Nat.le_of_eq Gb2.out.symm)
      clear hne3 hneg hg3
      refine wp_region_tail (fun i => i = g ∨ some i = (Value.slice A k c).ownBlock) [7] (by kernel_rfl) ?_
      apply wpT_next 0 (some 31) (by kernel_rfl)
      · rfl
      · rfl
      · kernel_rfl
      · kernel_rfl
      · kernel_rfl
      · exact fun _ _ _ _ h => h
      apply Exists.intro
      apply And.intro
      · apply yr_run; rfl; intro w' hw'; go_simp; (try with_reducible rfl)
      simp only [Act.put, stA_, st0_, st1_]
      apply wpT_next 1 (some 32) (by kernel_rfl)
      · rfl
      · rfl
      · kernel_rfl
      · kernel_rfl
      · kernel_rfl
      · exact fun _ _ _ _ h => h
      apply Exists.intro
      apply And.intro
      · apply yr_run; rfl; intro w' hw'; go_simp; (try with_reducible rfl)
      simp only [Act.put, stA_, st0_, st1_]
      apply wpT_next 2 (some 33) (by kernel_rfl)
      · rfl
      · rfl
      · kernel_rfl
      · kernel_rfl
      · kernel_rfl
      · exact fun _ _ _ _ h => h
      apply Exists.intro
      apply And.intro
      · apply yr_run; rfl; intro w' hw'; go_simp; (try with_reducible rfl)
      simp only [Act.put, stA_, st0_, st1_]
      apply wpT_call 3 (some 34)
      · rfl
      · rfl
      · kernel_rfl
      · rfl
      · intro w'; go_simp; first | done | exact ⟨rfl, rfl⟩ | with_reducible rfl
      intro w' hw'
      have hwx := Ext.trans HD.out hw'
      have HAl := hin.out.bl Hlw.out hwx
      refine (HRk.out _ HAl.cu).mono ?_
      rintro e w1 ⟨o, R5, rfl, hcu, hok⟩
      refine ⟨_, rfl, hcu.2.wider (fun i _ e => .inl e), ?_⟩
      have HC5 := Lib.hid hcu.1
      have HOk := Lib.hid hok
      have HY5 := Lib.hid (hcu.2.whole HAl.hy (fun e => by have h1 : b7 = g := e; have := Hb7.out; omega))
      have HX5 := Lib.hid (hcu.2.whole HAl.hx (fun e => by have h1 : b2 = g := e; have := Hg.out; omega))
      have HO5 := Lib.hid (own_at1 HAl.own hcu.2 Hneg.out)
      have HK5 : RowKit.Hid (Below b2 w w1) := Lib.hid (HAl.kp.trans (hcu.2.below (Nat.le_trans Hlw.out HAl.kp.size) (fun i hi e => by have h1 : i = g := e; have := Hg.out; omega)))
      clear hw' hcu hwx HAl ld0 hok
      simp only [Act.put, stA_, st0_, st1_]
      apply wpT_run 4 (some 35)
      · rfl
      · rfl
      · kernel_rfl
      · rfl
      intro w' hw'
      refine ⟨.slice (some ⟨w'.heap.size, 0, none⟩) 1 1, w'.alloc (.cells (opCells o).toArray 53), exec_buildSlice 26 53 1 #[(0, .tmp 34)] (by rfl) Try.underlying26 _ (by kernel_rfl), Kept.of_below (below1 _ _), ?_⟩
      have hE : Ext w1 (w'.alloc (.cells (opCells o).toArray 53)) := Ext.trans hw' (below1 _ _)
      have HL6 : RowKit.Hid (RdS (w'.alloc (.cells (opCells o).toArray 53)) (w'.alloc (.cells (opCells o).toArray 53)).heap.size 20 (some ⟨w'.heap.size, 0, none⟩) 1 1 (rowsV opCells [o])) := Lib.hid (by rw [rowsOp1]; exact RdS.of_whole8 (Whole.new_ _ _ _) rfl)
      have HC6 := Lib.hid (HC5.out.bl hE)
      have HY6 := Lib.hid (HY5.out.bl hE)
      have HX6 := Lib.hid (HX5.out.bl hE)
      have HO6 := Lib.hid (own_up HO5.out hE)
      have HK6 : RowKit.Hid (Below b2 w (w'.alloc (.cells (opCells o).toArray 53))) := Lib.hid (HK5.out.trans (Below.mono hE (Nat.le_trans Hlw.out HK5.out.size)))
      obtain ⟨w2, gw2⟩ : ∃ z, w'.alloc (.cells (opCells o).toArray 53) = z := ⟨_, rfl⟩
      obtain ⟨g6, gg6⟩ : ∃ z, w'.heap.size = z := ⟨_, rfl⟩
      rw [gw2] at HL6 HC6 HY6 HX6 HO6 HK6 ⊢
      rw [gg6] at HL6 ⊢
      clear hw' hE gw2 gg6 HC5 HY5 HX5 HO5 HK5
      simp only [Act.put, stA_, st0_, st1_]
      apply wpT_run 5 (some 36)
      · rfl
      · rfl
      · kernel_rfl
      · rfl
      intro w' hw'
      have hO := own_up HO6.out hw'
      have hY := HY6.out.bl hw'
      have hX := HX6.out.bl hw'
      have hC := HC6.out.bl hw'
      have hK : Below b2 w w' := HK6.out.trans (Below.mono hw' (Nat.le_trans Hlw.out HK6.out.size))
      have hB2 : b2 ≤ w'.heap.size := Nat.le_trans Hlw.out hK.size
      obtain ⟨vv, w'', hrun, ho, hb, hg, hbk⟩ := Ow.app2 (P := Try.prog) 26 26 53 i0 _ 20 168 _ Try.underlying26 hi hz0 hz1 hz2 rfl (by decide) _ _ _ (ow_of hO hB2) _ _ _ _ _ (HL6.out.bl hw') (rowsV_one opCells opCells_one [o]) (by unfold maxLen; omega) (by omega)
      refine ⟨vv, w'', exec_append (by rfl) (by rfl) (by rfl) hrun, kept_grow hg (fun i e => .inr e), ?_⟩
      obtain ⟨A7, c7, rfl, -⟩ := ho.rds
      have hne3 := own_ne hO hY (by decide)
      have hne2 := own_ne hO hX (by decide)
      have hkb : Kept (fun i => some i = (Value.slice A k c).ownBlock) w' w'' := kept_grow hg (fun i e => e)
      have hlo7 : ∀ i, some i = (Value.slice A k c).ownBlock → b2 ≤ i := fun i e => (hO.lt i e.symm).1
      have HC7 := Lib.hid (hC.kept hkb Hneg.out (fun i hi e => by have h1 := hlo7 i e; omega))
      have HY7 := Lib.hid (hkb.whole hY hne3)
      have HX7 := Lib.hid (hkb.whole hX hne2)
      have HO7 := Lib.hid ho.own
      have HK7 : RowKit.Hid (Below b2 w w'') := Lib.hid (hK.trans (hkb.below hB2 (fun i hi e => by have h1 := hlo7 i e; omega)))
      obtain ⟨w3, gw3⟩ : ∃ z, w'' = z := ⟨_, rfl⟩
      rw [gw3] at HC7 HY7 HX7 HO7 HK7 ⊢
      clear hw' hO hY hX hC hK hB2 hrun ho hb hg hbk hne3 hne2 hkb hlo7 gw3 HL6 HC6 HY6 HX6 HO6 HK6
      simp only [Act.put, stA_, st0_, st1_]
      apply wpT_next 6 (some 37) (by kernel_rfl)
      · rfl
      · rfl
      · kernel_rfl
      · kernel_rfl
      · kernel_rfl
      · exact fun _ _ _ _ h => h
      apply Exists.intro
      apply And.intro
      · apply yr_run; rfl; intro w' hw'; go_simp; (try with_reducible rfl)
      simp only [Act.put, stA_, st0_, st1_]
      apply wpT_last 7
      · rfl
      · rfl
      · kernel_rfl
      · rfl
      · decide
      intro w' hw'
      have hy := HY7.out.bl hw'
      have hcl := hy.cell (i := 0) rfl
      have hfr := hy.free 0
      refine ⟨w'.setCell ⟨b7, 0, none⟩ (.slice A7 (k + 1) c7), ?_, ?_⟩
      · go_simp; first | done | exact rfl
      have HS8 : RowKit.Hid (EdR b2 g b2 b7 B1 L0 w (k + 1) A7 c7 R5 (false || !okO R) (Os ++ [o]) (w'.setCell ⟨b7, 0, none⟩ (.slice A7 (k + 1) c7))) := Lib.hid (by
        have hx := HX7.out.bl hw'
        have hst := hin.out.st
        have hB1 : B1 = false := by cases B1; rfl; cases hst
        have hkN : okN k L0 = true := by
          rw [hB1, Bool.false_or] at hst
          cases hq : okN k L0
          · rw [hq] at hst; cases hst
          · rfl
        obtain ⟨v1, v2⟩ := hin.out.vl hkN
        refine ⟨(HC7.out.bl hw').poke Hb7.out.1 _, hy.set_ 0 _, hx.far (p := ⟨b7, 0, none⟩) (show b2 ≠ b7 by have := Hb7.out; omega) _, ?_, (HK7.out.trans (Below.mono hw' (Nat.le_trans Hlw.out HK7.out.size))).setCell (p := ⟨b7, 0, none⟩) (by show b2 ≤ b7; have := Hb7.out; omega) _, ?_, fun q => ?_⟩
        · rw [rowsV_app]
          exact own_cell_far (own_up HO7.out hw') (own_ne (own_up HO7.out hw') hy (by decide)) _
        · rw [okN_snoc, hkN, hB1, ← v2]
          rfl
        · rw [okN_snoc, hkN, Bool.true_and, ← v2] at q
          obtain ⟨u1, u2⟩ := HOk.out q
          rw [edV_snoc, edL_snoc, ← v1, ← v2, u1, u2]
          exact ⟨rfl, rfl⟩)
      obtain ⟨w4, gw4⟩ : ∃ z, w'.setCell ⟨b7, 0, none⟩ (.slice A7 (k + 1) c7) = z := ⟨_, rfl⟩
      rw [gw4] at HS8 ⊢
      clear hw' hy hcl hfr gw4 HC7 HY7 HX7 HO7 HK7
      try simp only [Act.put, stA_, st0_, st1_]
      refine wpT_done (by kernel_rfl) ?_ _
      intro wE hwE
      have HS9 := Lib.hid (HS8.out.bl Hlw.out hwE)
      clear HS8 hwE hin
      go_wp2
      go_roundw
      case rel => exact ⟨k + 1, A7, c7, R5, _, _, by omega, by omega, by go_num, HS9⟩
      case measure => simp [intOf]; omega
    · go_upto_region 5 with fail
      go_cut [28] (fun v z => v = .bool false ∧ z = wr)
      case first =>
        by_cases hk1 : k < n
        · have hi1 : (k : Int) < (n : Int) := by omega
          by_cases hk2 : k ≤ 6
          · have hi2 : (k : Int) ≤ 6 := by omega
            obtain rfl : bad = true := by
              cases bad with
              | true => rfl
              | false => exact absurd ⟨hk1, hk2, rfl⟩ hgo
            have l1 := hin.out.cu.cell1
            clear hgo
            go_wp2
            go_meet
            exact ⟨rfl, rfl⟩
          · have hi2 : ¬ (k : Int) ≤ 6 := by omega
            clear hgo
            go_wp2
            go_meet
            exact ⟨rfl, rfl⟩
        · have hi1 : ¬ (k : Int) < (n : Int) := by omega
          clear hgo
          go_wp2
          go_meet
          exact ⟨rfl, rfl⟩
      case rest =>
      obtain ⟨rfl, hz⟩ := hcut
      replace hz := hz.symm
      subst hz
      go_upto_region 8 with fail
      have l1 := hin.out.cu.cell1
      have l2 := hin.out.hy.cell (i := 0) rfl
      have q0 := hin.out.hx.cell (i := 0) rfl
      have f0 := hin.out.hx.free 0
      have Hlw : RowKit.Hid (b2 ≤ w.heap.size) := Lib.hid (Nat.le_of_eq Gb2.out.symm)
      have Hno : RowKit.Hid (∀ W, Below b2 w W → okEd B = false → GivesTR w B (.returned (.tuple #[.agg #[.slice none 0 0], .slice A0 n0 c0, .int .i64 2])) W) := Lib.hid (fun W hb hq => by
        have e1 : tkV B = [] := by unfold tkV; rw [hq]; rfl
        have e2 : tkR B = B := by unfold tkR; rw [hq]; rfl
        have e3 : tkE B = 2 := by unfold tkE; rw [hq]; rfl
        rw [← Gb2.out] at hb
        unfold GivesTR
        rw [e1, e2, e3]
        exact ⟨none, 0, A0, c0, n0, 0, rfl, rfl, Hl0.out.symm, World.ownsRow_nil _ _ _ _, HR0.out.bl hb, hb⟩)
      have HXz := Lib.hid (hin.out.hx.set_ 0 (.slice none 0 0))
      have HBz := Lib.hid (hin.out.kp.setCell (p := ⟨b2, 0, none⟩) (Nat.le_refl _) (.slice none 0 0))
      cases bad with
      | true =>
        have hq : okEd B = false := by
          cases he : okEd B with
          | false => rfl
          | true =>
            obtain ⟨j1, j2, j3, -⟩ := okEd_got he
            rw [GL0.out, Gn.out] at j1
            have h1 := hin.out.st
            rw [← GB1.out, decide_eq_true j2, okN_le L0 hk j1] at h1
            cases h1
        have HP := Lib.hid (Hno.out _ HBz.out hq)
        clear hq hgo
        go_wp2
        exact ret_whole3 rfl b2 rfl rfl rfl HXz.out Try.underlying28 rfl (by kernel_rfl) rfl HP.out
      | false =>
        by_cases hnk : k = n
        · subst hnk
          have hkN : okN k L0 = true := by
            have hst := hin.out.st
            cases hq : okN k L0
            · rw [hq] at hst; cases B1 <;> cases hst
            · rfl
          have hB1 : 1 ≤ B.length := by
            have hst := hin.out.st
            rw [hkN] at hst
            by_cases hq : 1 ≤ B.length
            · exact hq
            · rw [← GB1.out, decide_eq_false hq] at hst; cases hst
          obtain ⟨v1, v2⟩ := hin.out.vl hkN
          have hV : Os = rdV B := by rw [v1, ← GL0.out]; unfold rdV; rw [Gn.out]
          have hR : R = rdR B := by rw [v2, ← GL0.out]; unfold rdR; rw [Gn.out]
          have HM := Lib.hid (fun W (h : RdS W W.heap.size 20 A k c (rowsV opCells Os)) => rmayedit_any A k c Os W h (by unfold maxLen; omega) (fun o ho => by rw [v1] at ho; have := edV_t k (L := L0) (by rw [← GL0.out]; exact drop_lt Hb.out 1) o ho; unfold maxLen; omega))
          have Hmx : RowKit.Hid (mayE Os ≠ 0 → okEd B = false) := Lib.hid (fun hx => by
            cases he : okEd B with
            | false => rfl
            | true => exact absurd (hV ▸ (okEd_got he).2.2.2) hx)
          have Hyes : RowKit.Hid (∀ A c Ag cg ng W, mayE Os = 0 → W.ownsRow b2 53 20 (.slice A k c) k (rowsV opCells Os) → RdS W W.heap.size 1 Ag ng cg (rowsV f8 R) → ng = R.length → Below b2 w W → GivesTR w B (.returned (.tuple #[.agg #[.slice A k c], .slice Ag ng cg, .int .i64 0])) W) := Lib.hid (fun A c Ag cg ng W hx h1 h2 h3 h4 => by
            have he : okEd B = true := (is_okEd (rd_isE Hb.out hB1 (by rw [Gn.out, GL0.out]; exact hkN) (hV ▸ hx))).1
            have e1 : tkV B = Os := by unfold tkV; rw [if_pos he, hV]
            have e2 : tkR B = R := by unfold tkR; rw [if_pos he, hR]
            have e3 : tkE B = 0 := by unfold tkE; rw [if_pos he]
            rw [← Gb2.out] at h4 h1
            unfold GivesTR
            rw [e1, e2, e3]
            exact ⟨A, c, Ag, cg, ng, k, rfl, ((own_rds h1).rlen opCells_len' (by decide)).symm, h3, h1, h2, h4⟩)
          obtain ⟨x, gx⟩ : ∃ z, mayE Os = z := ⟨_, rfl⟩
          rw [gx] at HM Hmx Hyes
          clear gx v1 v2 hV hR hB1 hkN hgo
          by_cases hx0 : x = 0
          · subst hx0
            go_upto_region 10 with (first
              | (go_at_call 44
                 refine (HM.out _ (own_rds hin.out.own)).mono ?_
                 rintro e w5 ⟨rfl, hb⟩
                 have HX5 := Lib.hid (hin.out.hx.bl hb)
                 have HY5 := Lib.hid (hin.out.hy.bl hb)
                 have HC5 := Lib.hid (hin.out.cu.bl hb)
                 have HO5 := Lib.hid (own_up hin.out.own hb)
                 have HB5 : RowKit.Hid (Below b2 w w5) := Lib.hid (hin.out.kp.trans (hb.mono (Nat.le_trans Hlw.out hin.out.kp.size)))
                 clear hb l1 l2 q0 f0))
            have HD : RowKit.Hid (Ext w5 w5.drew) := Lib.hid (below_drewN w5.heap.size w5 1)
            obtain ⟨Ag, ng, cg, a0, hrg, hng, -, hlg⟩ := HC5.out.cell0
            have ldT : ∀ w', Kept (fun i => i = b2) w5.drew w' → w'.cell? ⟨b7, 0, none⟩ = some (.slice A k c) := fun w' hh => hh.cell (HY5.out.dr.cell (i := 0) rfl) (fun e => by have h1 : b7 = b2 := e; have := Hb7.out; omega)
            have ldG : ∀ w', Kept (fun i => i = b2) w5.drew w' → w'.cell? ⟨g, 0, none⟩ = some (.slice Ag ng cg) := fun w' hh => hh.cell (HD.out.cell a0) (fun e => by have h1 : g = b2 := e; have := Hg.out; omega)
            have HRg := Lib.hid hrg
            have HLg := Lib.hid hlg
            have Hng := Lib.hid hng
            clear hrg hlg hng a0
            refine wp_region_reg (fun i => i = b2) (by kernel_rfl) ?_
            refine opR_ 0 56 (v := ?_) ?_ ?_; rotate_left
            · intro w' hw'; go_simp; (try with_reducible rfl)
            simp only [st0_, st1_]
            refine opR_ 1 57 (v := ?_) ?_ ?_; rotate_left
            · intro w' hw'; go_simp; (try with_reducible rfl)
            simp only [st0_, st1_]
            refine opR_ 2 58 (v := ?_) ?_ ?_; rotate_left
            · intro w' hw'; go_simp; (try with_reducible rfl)
            simp only [st0_, st1_]
            refine opR_ 3 59 (v := ?_) ?_ ?_; rotate_left
            · intro w' hw'; go_simp; (try with_reducible rfl)
            simp only [st0_, st1_]
            refine opR_ 4 60 (v := ?_) ?_ ?_; rotate_left
            · intro w' hw'; go_simp; (try with_reducible rfl)
            simp only [st0_, st1_]
            apply wpR_store 5
            · rfl
            · rfl
            · kernel_rfl
            · rfl
            intro w' hw'
            have hE := Ext.trans HD.out hw'
            have hx := HX5.out.bl hE
            have q0 := hx.cell (i := 0) rfl
            have f0 := hx.free 0
            refine ⟨w'.setCell ⟨b2, 0, none⟩ (.slice A k c), ?_, Kept.setCell (S := fun i => i = b2) (Kept.refl _ w') (p := ⟨b2, 0, none⟩) (.inl rfl) _, ?_⟩
            · go_simp
            have HX7 := Lib.hid (hx.set_ 0 (.slice A k c))
            have HB7 : RowKit.Hid (Below b2 w (w'.setCell ⟨b2, 0, none⟩ (.slice A k c))) := Lib.hid ((HB5.out.trans (Below.mono hE (Nat.le_trans Hlw.out HB5.out.size))).setCell (p := ⟨b2, 0, none⟩) (Nat.le_refl _) _)
            have HO7 := Lib.hid (own_cell_far (g := b2) (i := 0) (own_up HO5.out hE) (own_ne (own_up HO5.out hE) hx (by decide)) (.slice A k c))
            have HR7 : RowKit.Hid (RdS (w'.setCell ⟨b2, 0, none⟩ (.slice A k c)) (w'.setCell ⟨b2, 0, none⟩ (.slice A k c)).heap.size 1 Ag ng cg (rowsV f8 R)) := Lib.hid ((HRg.out.bl hE).kept_ne (kept_at w' b2 0 _) (fun a ha hn e => by have h1 := HLg.out a ha hn; have e2 : a.block = b2 := e; omega))
            obtain ⟨w7, gw7⟩ : ∃ z, w'.setCell ⟨b2, 0, none⟩ (.slice A k c) = z := ⟨_, rfl⟩
            rw [gw7] at HX7 HB7 HO7 HR7 ⊢
            clear gw7 hw' hE hx q0 f0 HX5 HB5 HO5 HRg
            try simp only [Act.put, stA_, st0_, st1_]
            refine opR_ 6 3 (v := ?_) ?_ ?_; rotate_left
            · intro w' hw'; go_simp; (try with_reducible rfl)
            simp only [st0_, st1_]
            refine opR_ 7 4 (v := ?_) ?_ ?_; rotate_left
            · intro w' hw'; go_simp; (try with_reducible rfl)
            simp only [st0_, st1_]
            refine wpR_done (by kernel_rfl) ?_ _
            intro wE hwE
            have HXe := Lib.hid (HX7.out.bl hwE)
            have HP := Lib.hid (Hyes.out A c Ag cg ng wE (by trivial) (own_up HO7.out hwE) (HR7.out.bl hwE) Hng.out (HB7.out.trans (Below.mono hwE (Nat.le_trans Hlw.out HB7.out.size))))
            clear hwE HX7 HB7 HO7 HR7
            go_wp2
            exact ret_whole3 rfl b2 rfl rfl rfl HXe.out Try.underlying28 rfl (by kernel_rfl) rfl HP.out
          · have q1 : (x == 0) = false := beq_eq_false_iff_ne.2 hx0
            have q2 : (x != 0) = true := bne_iff_ne.2 hx0
            have hq := Hmx.out hx0
            have Hq := Lib.hid hq
            clear hq hx0
            go_wp2_with (first
              | (go_at_call 44
                 refine (HM.out _ (own_rds hin.out.own)).mono ?_
                 rintro e w5 ⟨rfl, hb⟩
                 have hx5 := hin.out.hx.bl hb
                 have HXy := Lib.hid (hx5.set_ 0 (.slice none 0 0))
                 have HP := Lib.hid (Hno.out _ ((hin.out.kp.trans (hb.mono (Nat.le_trans Hlw.out hin.out.kp.size))).setCell (p := ⟨b2, 0, none⟩) (Nat.le_refl _) (.slice none 0 0)) Hq.out)
                 clear l1 l2 q0 f0
                 have q0 := hx5.cell (i := 0) rfl
                 have f0 := hx5.free 0
                 clear hb hx5))
            exact ret_whole3 rfl b2 rfl rfl rfl HXy.out Try.underlying28 rfl (by kernel_rfl) rfl HP.out
        · have hq : okEd B = false := by
            cases he : okEd B with
            | false => rfl
            | true =>
              obtain ⟨-, -, j3, -⟩ := okEd_got he
              rw [Gn.out] at j3
              exact absurd ⟨by omega, by omega, rfl⟩ hgo
          have HP := Lib.hid (Hno.out _ HBz.out hq)
          have q1 : ((n : Int) != (k : Int)) = true := bne_iff_ne.2 (by omega)
          have q2 : ((n : Int) == (k : Int)) = false := beq_eq_false_iff_ne.2 (by omega)
          clear hq hgo hnk
          go_wp2
          exact ret_whole3 rfl b2 rfl rfl rfl HXz.out Try.underlying28 rfl (by kernel_rfl) rfl HP.out
end Go.Proofs.Ytinfbaflkjghhaa
/- The document's Whole. -/
namespace Go.Proofs.Ytinfbaflkjghhaa
open Go.RowKit
set_option maxRecDepth 100000 in
set_option maxHeartbeats 8000000 in
theorem rwhole10_any (A : Option Addr) (n c : Nat) (B : List Nat) (w : World) (hl0 : B.length = n) (h : RdS w w.heap.size 1 A n c (rowsV f8 B)) (hn : n ≤ 90000) (hb : ∀ b ∈ B, b < 256) :
    Calls Try.prog 23 #[.slice A n c] w fun e w' => ∃ A1 k1, e = .returned (.tuple #[.agg #[.slice A1 (whV B).length k1], .int .i64 (whE B)]) ∧ w'.ownsRow w.heap.size 53 20 (.slice A1 (whV B).length k1) (whV B).length (rowsV opCells (whV B)) ∧ Below w.heap.size w w' := by
  have HT := Lib.hid (rtake10_any A n c B (w.alloc (.cells #[.slice none 0 0] 28)) hl0 (h.al _) hn hb)
  have HX0 : RowKit.Hid (Whole (w.alloc (.cells #[.slice none 0 0] 28)) w.heap.size 28 [.slice none 0 0]) := Lib.hid (Whole.new_ _ _ [_])
  have HB0 : RowKit.Hid (Below w.heap.size w (w.alloc (.cells #[.slice none 0 0] 28))) := Lib.hid (below1 _ _)
  have HV : RowKit.Hid (tkV B = (if okEd B = true then rdV B else []) ∧ tkE B = (if okEd B = true then 0 else 2) ∧ tkR B = (if okEd B = true then rdR B else B)) := Lib.hid ⟨rfl, rfl, rfl⟩
  clear h hb hn hl0
  go_enter Try.func23, Try.ntmps23
  go_upto_region 1 with fail
  obtain ⟨w0, gw0⟩ : ∃ z, w.alloc (.cells #[.slice none 0 0] 28) = z := ⟨_, rfl⟩
  obtain ⟨b2, gb2⟩ : ∃ z, w.heap.size = z := ⟨_, rfl⟩
  rw [gw0] at HT HX0 HB0 ⊢
  rw [gb2] at HX0 ⊢
  have Gb2 := Lib.hid gb2
  clear gw0 gb2
  obtain ⟨L, gL⟩ : ∃ z, tkV B = z := ⟨_, rfl⟩
  obtain ⟨x, gx⟩ : ∃ z, tkE B = z := ⟨_, rfl⟩
  obtain ⟨R, gR⟩ : ∃ z, tkR B = z := ⟨_, rfl⟩
  have HT1 : RowKit.Hid (Calls Try.prog 39 #[.slice A n c] w0 fun e w' => ∃ A1 k1 A2 k2 m, e = .returned (.tuple #[.agg #[.slice A1 L.length k1], .slice A2 m k2, .int .i64 x]) ∧ m = R.length ∧ w'.ownsRow w0.heap.size 53 20 (.slice A1 L.length k1) L.length (rowsV opCells L) ∧ Below w0.heap.size w0 w') := Lib.hid (by
    refine HT.out.mono ?_
    rintro e w' ⟨A1, k1, A2, k2, m, l, rfl, rfl, h2, h3, -, h5⟩
    rw [gL] at h3
    exact ⟨A1, k1, A2, k2, m, by rw [gL, gx], by rw [← gR]; exact h2, h3, h5⟩)
  rw [gL, gx, gR] at HV
  obtain ⟨l, gl⟩ : ∃ z, L.length = z := ⟨_, rfl⟩
  rw [gl] at HT1
  have Gl := Lib.hid gl
  clear HT gL gx gR gl
  go_upto_region 2 with (first
    | (go_at_call 39
       refine HT1.out.mono ?_
       rintro e w2 ⟨A1, k1, A2, k2, m, rfl, hm, ho, hb2⟩
       have Hm := Lib.hid hm
       have HX2 := Lib.hid ((HX0.out.bl hb2).al (.cells #[.slice A1 l k1] 28))
       have HO2 := Lib.hid (own_up ho (below1 w2 (.cells #[.slice A1 l k1] 28)))
       have HB2 := Lib.hid (bel_al (bel_bl HB0.out hb2) (.cells #[.slice A1 l k1] 28))
       have HY2 : RowKit.Hid (Whole (w2.alloc (.cells #[.slice A1 l k1] 28)) w2.heap.size 28 [.slice A1 l k1]) := Lib.hid (Whole.new_ _ _ [_])
       have Hsz := Lib.hid HB0.out.size
       clear ho hb2 hm))
  obtain ⟨w3, gw3⟩ : ∃ z, w2.alloc (.cells #[.slice A1 l k1] 28) = z := ⟨_, rfl⟩
  obtain ⟨b4, gb4⟩ : ∃ z, w2.heap.size = z := ⟨_, rfl⟩
  rw [gw3] at HX2 HO2 HB2 HY2 ⊢
  rw [gb4] at HY2 ⊢
  clear gw3 gb4 HX0 HB0
  have d0 := HY2.out.cell (i := 0) rfl
  have q0 := HX2.out.cell (i := 0) rfl
  have f0 := HX2.out.free 0
  have hb2l : w.heap.size ≤ b2 := Nat.le_of_eq Gb2.out
  have hno : okW B = false → ∃ A1 k1, Ending.returned (.tuple #[.agg #[.slice none 0 0], .int .i64 2]) = .returned (.tuple #[.agg #[.slice A1 (whV B).length k1], .int .i64 (whE B)]) ∧ (w3.setCell ⟨b2, 0, none⟩ (.slice none 0 0)).ownsRow w.heap.size 53 20 (.slice A1 (whV B).length k1) (whV B).length (rowsV opCells (whV B)) ∧ Below w.heap.size w (w3.setCell ⟨b2, 0, none⟩ (.slice none 0 0)) := fun hq => by
    have e1 : whV B = [] := by unfold whV; rw [hq]; rfl
    have e2 : whE B = 2 := by unfold whE; rw [hq]; rfl
    rw [e1, e2]
    exact ⟨none, 0, rfl, World.ownsRow_nil _ _ _ _, HB2.out.setCell (p := ⟨b2, 0, none⟩) hb2l _⟩
  have Hno := Lib.hid hno
  clear hno
  cases ho : okEd B with
  | false =>
    have hv := HV.out
    rw [ho] at hv
    obtain ⟨hL, hx, -⟩ := hv
    simp only [Bool.false_eq_true, if_false] at hL hx
    subst hx
    have hW : okW B = false := by unfold okW; rw [ho]; rfl
    have HP := Lib.hid (Hno.out hW)
    have HXz := Lib.hid (HX2.out.set_ 0 (.slice none 0 0))
    clear hW hL ho
    go_wp2
    exact ret_whole2 rfl b2 rfl rfl HXz.out Try.underlying28 rfl (by kernel_rfl) rfl HP.out
  | true =>
    have hv := HV.out
    rw [ho] at hv
    obtain ⟨hL, hx, hR⟩ := hv
    simp only [if_true] at hL hx hR
    subst hx
    by_cases hr : R = []
    · have hm0 : m = 0 := by rw [Hm.out, hr]; rfl
      have hW : okW B = true := by unfold okW; rw [ho, ← hR, hr]; rfl
      have e1 : whV B = L := by unfold whV; rw [hW, hL]; rfl
      have e2 : whE B = 0 := by unfold whE; rw [hW]; rfl
      have HP : RowKit.Hid (∃ A' k', Ending.returned (.tuple #[.agg #[.slice A1 l k1], .int .i64 0]) = .returned (.tuple #[.agg #[.slice A' (whV B).length k'], .int .i64 (whE B)]) ∧ (w3.setCell ⟨b2, 0, none⟩ (.slice A1 l k1)).ownsRow w.heap.size 53 20 (.slice A' (whV B).length k') (whV B).length (rowsV opCells (whV B)) ∧ Below w.heap.size w (w3.setCell ⟨b2, 0, none⟩ (.slice A1 l k1))) := Lib.hid (by
        rw [e1, e2, Gl.out]
        exact ⟨A1, k1, rfl, own_lo8 (own_cell_far HO2.out (own_ne HO2.out HX2.out (by decide)) _) Hsz.out, HB2.out.setCell (p := ⟨b2, 0, none⟩) hb2l _⟩)
      have HXz := Lib.hid (HX2.out.set_ 0 (.slice A1 l k1))
      subst hm0
      clear hW hL ho hR hr e1 e2
      go_wp2
      exact ret_whole2 rfl b2 rfl rfl HXz.out Try.underlying28 rfl (by kernel_rfl) rfl HP.out
    · have hm0 : 0 < m := by
        rw [Hm.out]
        exact List.length_pos_iff.2 hr
      have hm1 : (0 : Int) < (m : Int) := by omega
      have hW : okW B = false := by unfold okW; rw [ho, ← hR, decide_eq_false hr]; rfl
      have HP := Lib.hid (Hno.out hW)
      have HXz := Lib.hid (HX2.out.set_ 0 (.slice none 0 0))
      clear hW hL ho hR hr
      go_wp2
      exact ret_whole2 rfl b2 rfl rfl HXz.out Try.underlying28 rfl (by kernel_rfl) rfl HP.out
end Go.Proofs.Ytinfbaflkjghhaa
/- OpcodePuts' walk. -/
namespace Go.Proofs.Ytinfbaflkjghhaa
open Go.RowKit
theorem rput10_any (A0 : Option Addr) (m0 c0 : Nat) (B : List Nat) (A : Option Addr) (n c : Nat) (L : List OpT) (w : World) (hl : B.length = m0) (h0 : RdS w w.heap.size 1 A0 m0 c0 (rowsV f8 B)) (hB : m0 ≤ 90000) (h : RdS w w.heap.size 20 A n c (rowsV opCells L)) (hn : n ≤ 1000000) (ht : ∀ o ∈ L, o.t.size ≤ maxLen) :
    Calls Try.prog 28 #[.slice A0 m0 c0, .agg #[.slice A n c]] w fun e w' => ∃ A' c', e = .returned (.tuple #[.slice A' (pE B L).length c', .int .i64 (mayE L)]) ∧ w'.ownsRow w.heap.size 5 1 (.slice A' (pE B L).length c') (pE B L).length (rowsV f8 (pE B L)) ∧ Below w.heap.size w w' := by
  subst hl
  unfold pE
  by_cases hm : mayE L = 0
  · rw [if_pos hm, hm]
    exact rput_yes A0 c0 B A n c L w h0 hB h ht hm
  · rw [if_neg hm]
    refine (rput_not A0 B.length c0 A n c L w h hn ht hm).mono ?_
    rintro e w' ⟨rfl, hb⟩
    exact ⟨none, 0, rfl, World.ownsRow_nil _ _ _ _, hb⟩
theorem oput10_p (A0 : Option Addr) (m0 c0 : Nat) (B : List Nat) (A : Option Addr) (n c : Nat) (L : List OpT) (w : World) (hl : B.length = m0) (h0 : RdS w w.heap.size 1 A0 m0 c0 (rowsV f8 B)) (hB : m0 ≤ 90000) (h : RdS w w.heap.size 20 A n c (rowsV opCells L)) (hn : n ≤ 1000000) :
    Calls Try.prog 26 #[.slice A0 m0 c0, .agg #[.slice A n c]] w fun e w' => ∃ A' c', e = .returned (.tuple #[.slice A' (pE B L).length c', .int .i64 (mayE L)]) ∧ w'.ownsRow w.heap.size 5 1 (.slice A' (pE B L).length c') (pE B L).length (rowsV f8 (pE B L)) ∧ Below w.heap.size w w' := by
  subst hl
  exact oput_any A0 c0 B A n c L w h0 hB h hn
end Go.Proofs.Ytinfbaflkjghhaa
/- OpcodeRows' walk. -/
namespace Go.Proofs.Ytinfbaflkjghhaa
open Go.RowKit
abbrev ES := Option Addr × Nat × Nat × List OpT
def eSl (e : ES) : List Value := [.slice e.1 e.2.1 e.2.2.1]
/-- Two rows of one's own of unlike elements lie apart. -/
theorem own_apart {W : World} {lo lo' k k' n n' : Nat} {T T' : TypeId} {v v' : Value} {xs xs' : List Value} (h : W.ownsRow lo T k v n xs) (h' : W.ownsRow lo' T' k' v' n' xs') (hT : T ≠ T') : v.ownBlock = none ∨ v.ownBlock ≠ v'.ownBlock := by
  rcases h.2 with ⟨rfl, -⟩ | ⟨g, cap, cur, rfl, -, hg, -⟩
  · exact .inl rfl
  · refine .inr fun e => ?_
    rcases h'.2 with ⟨rfl, -⟩ | ⟨g', cap', cur', rfl, -, hg', -⟩
    · cases e
    · have e1 : g = g' := Option.some.inj e
      subst e1
      rw [hg] at hg'
      injection Option.some.inj hg' with e2 e3 e4
      exact hT e3
theorem own_grow {W W' : World} {lo lo' k k' n n' : Nat} {T T' : TypeId} {v v' : Value} {xs xs' : List Value} (h : W.ownsRow lo T k v n xs) (h' : W.ownsRow lo' T' k' v' n' xs') (hT : T ≠ T') (hg : W.grownBy W' v'.ownBlock) : W'.ownsRow lo T k v n xs := h.kept hg (own_apart h h' hT)
structure RwS (lo : Nat) (W : World) (vi : Value) (Ls : List ES) : Prop where
  row : W.ownsRow lo 28 1 vi Ls.length (rowsV eSl Ls)
  each : ∀ e ∈ Ls, W.ownsRow lo 53 20 (.slice e.1 e.2.1 e.2.2.1) e.2.1 (rowsV opCells e.2.2.2)
  may : ∀ e ∈ Ls, mayE e.2.2.2 = 0 ∧ e.2.1 ≤ 10
theorem RwS.up {lo : Nat} {W W' : World} {vi : Value} {Ls : List ES} (h : RwS lo W vi Ls) (hb : Below W.heap.size W W') : RwS lo W' vi Ls := ⟨own_up h.row hb, fun e he => own_up (h.each e he) hb, h.may⟩
end Go.Proofs.Ytinfbaflkjghhaa
/- Steps as bytes: numbers alone. -/
namespace Go.Proofs.Ytinfbaflkjghhaa
open Go.RowKit
abbrev H4 := Int × Int × Int × Int
def In4 (x : H4) : Prop := In64 x.1 ∧ In64 x.2.1 ∧ In64 x.2.2.1 ∧ In64 x.2.2.2
/-- The head of a step as bytes, and out of bytes. -/
def h4B (x : H4) : List Nat := be8 x.1 ++ (be8 x.2.1 ++ (be8 x.2.2.1 ++ be8 x.2.2.2))
def h4V (B : List Nat) : H4 := (num8 (B.take 8), num8 ((B.drop 8).take 8), num8 ((B.drop 16).take 8), num8 ((B.drop 24).take 8))
theorem h4B_len (x : H4) : (h4B x).length = 32 := by simp [h4B, be8_len]
theorem h4B_lt (x : H4) : ∀ b ∈ h4B x, b < 256 := fun b hb => by
  unfold h4B at hb
  simp only [List.mem_append] at hb
  rcases hb with h | h | h | h <;> exact be8_lt _ b h
abbrev SD := H4 × List OpT
def sdE (x : SD) : Int := if x.2 = [] then 0 else mayE x.2
def sdB (x : SD) : List Nat := h4B x.1 ++ (if x.2 = [] then [] else edB x.2)
/-- What Put tells. -/
def sdP (x : SD) : List Nat := if sdE x = 0 then sdB x else []
def okS (B : List Nat) : Bool := decide (B.length = 32) || (decide (32 < B.length) && okW (B.drop 32))
def zS : SD := ((0, 0, 0, 0), [])
def tkS (B : List Nat) : SD := if okS B = true then (h4V B, whV (B.drop 32)) else zS
def tkSE (B : List Nat) : Int := if okS B = true then 0 else 240
theorem okW_nil : okW [] = false := by
  cases h : okW [] with
  | false => rfl
  | true =>
    obtain ⟨L, -, h2⟩ := okW_is.1 h
    have := edB_pos L
    rw [← h2] at this
    simp at this
theorem whV_nil : whV [] = [] := by unfold whV; rw [okW_nil]; rfl
theorem sdB_lt (x : SD) : ∀ b ∈ sdB x, b < 256 := fun b hb => by
  unfold sdB at hb
  rcases List.mem_append.1 hb with h | h
  · exact h4B_lt _ b h
  · split at h
    · cases h
    · exact edB_lt _ b h
theorem sdB_len {x : SD} (h : sdE x = 0) : 32 ≤ (sdB x).length ∧ (sdB x).length ≤ 171 := by
  unfold sdB
  rw [List.length_append, h4B_len]
  unfold sdE at h
  split
  · simp
  · rename_i hx
    rw [if_neg hx] at h
    have := edB_len h
    omega
theorem num8_in (L : List Nat) : In64 (num8 L) := by
  unfold num8 In64
  rw [IntKind.wrap_i64]
  omega
theorem tkS_in (B : List Nat) : In4 (tkS B).1 := by
  unfold tkS
  split
  · exact ⟨num8_in _, num8_in _, num8_in _, num8_in _⟩
  · unfold zS In4 In64; simp
/-- A step, and where its operations lie. -/
abbrev StT := H4 × ES
def stC (s : StT) : List Value := [.int .i64 s.1.1, .int .i64 s.1.2.1, .int .i64 s.1.2.2.1, .int .i64 s.1.2.2.2, .slice s.2.1 s.2.2.1 s.2.2.2.1]
theorem stC_len (s : StT) : (stC s).length = 5 := rfl
theorem stC_one (s : StT) : ∀ u ∈ stC s, u.oneCell' = true := by simp [stC, Value.oneCell']
def sdT (s : StT) : SD := (s.1, s.2.2.2.2)
end Go.Proofs.Ytinfbaflkjghhaa
/- Put: a step laid down, and the document's own. -/
namespace Go.Proofs.Ytinfbaflkjghhaa
open Go.RowKit
def h4G (x : H4) (k : Nat) : Int := match k with | 0 => x.1 | 1 => x.2.1 | 2 => x.2.2.1 | _ => x.2.2.2
theorem h4_get (k1 k2 k3 k4 : Int) (k : Nat) (hk : k < 4) : (#[.int .i64 k1, .int .i64 k2, .int .i64 k3, .int .i64 k4] : Array Value)[k]? = some (.int .i64 (h4G (k1, k2, k3, k4) k)) := by
  have : k = 0 ∨ k = 1 ∨ k = 2 ∨ k = 3 := by omega
  rcases this with rfl | rfl | rfl | rfl <;> rfl
theorem h4_take (x : H4) (k : Nat) (hk : k < 4) : (h4B x).take (8 * k) ++ be8 (h4G x k) = (h4B x).take (8 * (k + 1)) := by
  obtain ⟨a, b, c, d⟩ := x
  have l8 : ∀ y : Int, (be8 y).length = 8 := be8_len
  have t8 : ∀ (y : Int) (n : Nat), 8 ≤ n → (be8 y).take n = be8 y := fun y n h => List.take_of_length_le (by rw [l8]; exact h)
  have : k = 0 ∨ k = 1 ∨ k = 2 ∨ k = 3 := by omega
  rcases this with rfl | rfl | rfl | rfl <;> simp [h4B, h4G, List.take_append, l8, t8]
theorem size_int23 (W : World) : (sizeOf 3).run Try.prog W = .ok 1 W := by
  have h : (Try.prog.info? 3).map (·.size) = some 1 := by kernel_rfl
  cases hq : Try.prog.info? 3 with
  | none => simp [hq] at h
  | some i => simp [hq] at h; simp [sizeOf, typeInfo, hq, h]
theorem idx_a4 (cs : Array Value) (j : Nat) (hj : j < 4) (x : Int) (hx : cs[j]? = some (.int .i64 x)) (W : World) : (Instr.index 54 (.agg cs) (.int .i64 (j : Int))).run Try.prog W = .ok (.int .i64 x) W := by
  simp only [Instr.index, asIntOf, Sem.run_bind, Sem.run_pure, Result.andThen_ok, run_underlying (Try.underlying54)]
  rw [if_pos ⟨by omega, by omega⟩]
  simp only [Sem.run_bind, size_int23, Result.andThen_ok, part, Int.toNat_natCast, Nat.mul_one]
  have ha : (isAgg 3).run Try.prog W = .ok false W := by
    unfold isAgg
    rw [Sem.run_bind, run_underlying Try.underlying3 W]
    rfl
  simp [ha, hx]
/-- Bytes of the call's own. -/
def GivesB (w : World) (X : List Nat) (m : Nat) (e : Ending) (w' : World) : Prop :=
  ∃ A c, e = .returned (.slice A m c) ∧ w'.ownsRow w.heap.size 5 1 (.slice A m c) m (rowsV f8 X) ∧ Below w.heap.size w w'
theorem num_b (A : Option Addr) (n c : Nat) (L : List Nat) (x : Int) (w : World) (hl : L.length = n) (h : RdS w w.heap.size 1 A n c (rowsV f8 L)) (hn : n ≤ 900000) (m : Nat) (hm : n + 8 = m) : Calls Try.prog 25 #[.slice A n c, .int .i64 x] w (GivesB w (L ++ be8 x) m) := by
  subst hl hm
  refine (num_any A c L x w h hn).mono ?_
  rintro e w' ⟨A', c', rfl, -, -, h3, h4⟩
  rw [List.length_append, be8_len] at h3
  exact ⟨A', c', by rw [List.length_append, be8_len], h3, h4⟩
theorem rnum_b (A : Option Addr) (n c : Nat) (L : List Nat) (x : Int) (w : World) (hl : L.length = n) (h : RdS w w.heap.size 1 A n c (rowsV f8 L)) (hn : n ≤ 900000) (m : Nat) (hm : n + 8 = m) : Calls Try.prog 27 #[.slice A n c, .int .i64 x] w (GivesB w (L ++ be8 x) m) := by
  subst hl hm
  refine (rnum_any A c L x w h hn).mono ?_
  rintro e w' ⟨A', c', rfl, -, -, h3, h4⟩
  rw [List.length_append, be8_len] at h3
  exact ⟨A', c', by rw [List.length_append, be8_len], h3, h4⟩
def GivesP (w : World) (x : SD) (e : Ending) (w' : World) : Prop :=
  ∃ A c, e = .returned (.tuple #[.slice A (sdP x).length c, .int .i64 (sdE x)]) ∧ w'.ownsRow w.heap.size 5 1 (.slice A (sdP x).length c) (sdP x).length (rowsV f8 (sdP x)) ∧ Below w.heap.size w w'
theorem sdP_nil (a : H4) : sdP (a, []) = h4B a ∧ sdE (a, []) = 0 := ⟨by unfold sdP sdE sdB; rw [if_pos rfl, if_pos rfl, if_pos rfl, List.append_nil], rfl⟩
theorem sdP_ops (a : H4) {L : List OpT} (h : L ≠ []) : sdP (a, L) = pE (h4B a) L ∧ sdE (a, L) = mayE L := by
  have e : sdE (a, L) = mayE L := by unfold sdE; rw [if_neg h]
  refine ⟨?_, e⟩
  unfold sdP pE sdB
  rw [e, if_neg h]
set_option maxRecDepth 100000 in
set_option maxHeartbeats 4000000 in
theorem put23_any (s : StT) (w : World) (h : RdS w w.heap.size 20 s.2.1 s.2.2.1 s.2.2.2.1 (rowsV opCells s.2.2.2.2)) (hn : s.2.2.1 ≤ 1000000) :
    Calls Try.prog 13 #[.agg (stC s).toArray] w (GivesP w (sdT s)) := by
  obtain ⟨⟨k1, k2, k3, k4⟩, A, n, c, L⟩ := s
  show Calls Try.prog 13 #[.agg #[.int .i64 k1, .int .i64 k2, .int .i64 k3, .int .i64 k4, .slice A n c]] w (GivesP w ((k1, k2, k3, k4), L))
  replace hn : n ≤ 1000000 := hn
  replace h : RdS w w.heap.size 20 A n c (rowsV opCells L) := h
  have HR0 := Lib.hid (h.al (.cells #[.int .i64 k1, .int .i64 k2, .int .i64 k3, .int .i64 k4, .slice A n c] 30))
  have h_l := Lib.hid (h.rlen opCells_len' (by decide))
  have HX0 : RowKit.Hid (Whole (w.alloc (.cells #[.int .i64 k1, .int .i64 k2, .int .i64 k3, .int .i64 k4, .slice A n c] 30)) w.heap.size 30 [.int .i64 k1, .int .i64 k2, .int .i64 k3, .int .i64 k4, .slice A n c]) := Lib.hid (Whole.new_ _ _ [.int .i64 k1, .int .i64 k2, .int .i64 k3, .int .i64 k4, .slice A n c])
  have HB0 : RowKit.Hid (Below w.heap.size w (w.alloc (.cells #[.int .i64 k1, .int .i64 k2, .int .i64 k3, .int .i64 k4, .slice A n c] 30))) := Lib.hid (below1 _ _)
  clear h
  go_enter Try.func13, Try.ntmps13
  have x0 := HX0.out.cell (i := 0) rfl
  have x1 := HX0.out.cell (i := 1) rfl
  have x2 := HX0.out.cell (i := 2) rfl
  have x3 := HX0.out.cell (i := 3) rfl
  go_upto_region 3 with fail
  obtain ⟨W0, gW0⟩ : ∃ z, w.alloc (.cells #[.int .i64 k1, .int .i64 k2, .int .i64 k3, .int .i64 k4, .slice A n c] 30) = z := ⟨_, rfl⟩
  obtain ⟨b0, gb0⟩ : ∃ z, w.heap.size = z := ⟨_, rfl⟩
  rw [gW0] at HR0 HX0 HB0 ⊢
  rw [gb0] at HX0 ⊢
  clear gW0 gb0 x0 x1 x2 x3
  go_loopw [4, 16] (fun v i wr => ∃ (k m : Nat) (A1 : Option Addr) (c1 : Nat), k ≤ 4 ∧ m = 8 * k ∧ v = .slice A1 m c1 ∧ i = .int .i64 (k : Int) ∧ RowKit.Hid (wr.ownsRow w.heap.size 5 1 (.slice A1 m c1) m (rowsV f8 ((h4B (k1, k2, k3, k4)).take m))) ∧ RowKit.Hid (RdS wr wr.heap.size 20 A n c (rowsV opCells L)) ∧ RowKit.Hid (Whole wr b0 30 [.int .i64 k1, .int .i64 k2, .int .i64 k3, .int .i64 k4, .slice A n c]) ∧ RowKit.Hid (Below w.heap.size w wr)) (fun _ i _ => 4 - (intOf i).toNat)
  case atStart => exact ⟨0, 0, none, 0, by omega, rfl, rfl, rfl, Lib.hid (World.ownsRow_nil _ _ _ _), HR0, HX0, HB0⟩
  case round =>
    clear HR0 HX0 HB0
    obtain ⟨k, m, A1, c1, hk, hm, rfl, rfl, HO, HR, HX, HB⟩ := hrel
    obtain ⟨wz, gwz⟩ : ∃ z, wr = z := ⟨_, rfl⟩
    rw [gwz] at HO HR HX HB ⊢
    clear gwz
    by_cases hlt : k < 4
    · have hltI : (k : Int) < 4 := by omega
      have hix := idx_a4 _ k hlt _ (h4_get k1 k2 k3 k4 k hlt)
      have hT := h4_take (k1, k2, k3, k4) k hlt
      obtain ⟨y, gy⟩ : ∃ z, h4G (k1, k2, k3, k4) k = z := ⟨_, rfl⟩
      rw [gy] at hix hT
      obtain ⟨m1, gm1⟩ : ∃ z, m + 8 = z := ⟨_, rfl⟩
      have hm1 : m1 = 8 * (k + 1) := by omega
      rw [← hm, ← hm1] at hT
      have HT := Lib.hid hT
      have hml : ((h4B (k1, k2, k3, k4)).take m).length = m := by rw [List.length_take, h4B_len]; omega
      have Hml := Lib.hid hml
      have hmle : m ≤ 900000 := by omega
      have Hgm := Lib.hid gm1
      have Hm1 := Lib.hid hm1
      clear hT gy hml gm1 hm hm1
      go_wp2_with fail
      clear hix
      refine (num_b A1 m c1 _ y _ Hml.out (own_rds HO.out) hmle m1 Hgm.out).mono ?_
      rintro e w3 ⟨A3, c3, rfl, ho3, hb3⟩
      rw [HT.out] at ho3
      have HO3 := Lib.hid (own_lo8 ho3 HB.out.size)
      have HR3 := Lib.hid (HR.out.bl hb3)
      have HX3 := Lib.hid (HX.out.bl hb3)
      have HB3 := Lib.hid (bel_bl HB.out hb3)
      clear ho3 hb3 HO HR HX HB HT Hml
      go_wp2
      go_roundw
      case rel => exact ⟨k + 1, m1, A3, c3, by omega, Hm1.out, rfl, by go_num, HO3, HR3, HX3, HB3⟩
      case measure => simp [intOf]; omega
    · obtain rfl : 4 = k := by omega
      obtain rfl : 32 = m := hm.symm
      have ho := HO.out
      rw [show (h4B (k1, k2, k3, k4)).take 32 = h4B (k1, k2, k3, k4) from List.take_of_length_le (by rw [h4B_len]; exact Nat.le_refl _)] at ho
      have HO := Lib.hid ho
      have x4 := HX.out.cell (i := 4) rfl
      clear ho hk hlt hm
      by_cases hL0 : L = []
      · subst hL0
        have hn0 : n = 0 := (h_l.out).symm.trans rfl
        have hz1 : ((n : Int) == 0) = true := by rw [hn0]; rfl
        have hP := sdP_nil (k1, k2, k3, k4)
        have HP : RowKit.Hid (GivesP w ((k1, k2, k3, k4), []) (.returned (.tuple #[.slice A1 32 c1, .int .i64 0])) wz) := Lib.hid (by
          unfold GivesP
          rw [hP.1, hP.2, h4B_len]
          exact ⟨A1, c1, rfl, HO.out, HB.out⟩)
        clear hn0 hP HR HO
        go_wp2
        refine bodyPost_ret (v := .tuple #[.slice A1 32 c1, .int .i64 0]) (by simp [results, Try.results13, go_sem]) rfl ?_
        exact HP.out
      · have hn1 : 0 < n := by rw [← h_l.out]; exact List.length_pos_iff.2 hL0
        have hz1 : ((n : Int) == 0) = false := beq_eq_false_iff_ne.2 (by omega)
        have hP := sdP_ops (k1, k2, k3, k4) hL0
        have HPt := Lib.hid hP
        clear hP hL0 hn1
        go_wp2_with fail
        refine (oput10_p A1 32 c1 (h4B (k1, k2, k3, k4)) A n c L _ (h4B_len _) (own_rds HO.out) (by omega) HR.out hn).mono ?_
        rintro e w5 ⟨A5, c5, rfl, ho5, hb5⟩
        have HP : RowKit.Hid (GivesP w ((k1, k2, k3, k4), L) (.returned (.tuple #[.slice A5 (pE (h4B (k1, k2, k3, k4)) L).length c5, .int .i64 (mayE L)])) w5) := Lib.hid (by
          unfold GivesP
          rw [HPt.out.1, HPt.out.2]
          exact ⟨A5, c5, rfl, own_lo8 ho5 HB.out.size, bel_bl HB.out hb5⟩)
        clear ho5 hb5 HR HO HPt
        go_wp2
        refine bodyPost_ret (v := .tuple #[.slice A5 (pE (h4B (k1, k2, k3, k4)) L).length c5, .int .i64 (mayE L)]) (by simp [results, Try.results13, go_sem]) rfl ?_
        exact HP.out
set_option maxRecDepth 100000 in
set_option maxHeartbeats 4000000 in
theorem rput23_any (s : StT) (w : World) (h : RdS w w.heap.size 20 s.2.1 s.2.2.1 s.2.2.2.1 (rowsV opCells s.2.2.2.2)) (hn : s.2.2.1 ≤ 1000000) (ht : ∀ o ∈ s.2.2.2.2, o.t.size ≤ maxLen) :
    Calls Try.prog 14 #[.agg (stC s).toArray] w (GivesP w (sdT s)) := by
  obtain ⟨⟨k1, k2, k3, k4⟩, A, n, c, L⟩ := s
  show Calls Try.prog 14 #[.agg #[.int .i64 k1, .int .i64 k2, .int .i64 k3, .int .i64 k4, .slice A n c]] w (GivesP w ((k1, k2, k3, k4), L))
  replace hn : n ≤ 1000000 := hn
  replace h : RdS w w.heap.size 20 A n c (rowsV opCells L) := h
  have HTx : RowKit.Hid (∀ o ∈ L, o.t.size ≤ maxLen) := Lib.hid ht
  have HR0 := Lib.hid (h.al (.cells #[.int .i64 k1, .int .i64 k2, .int .i64 k3, .int .i64 k4, .slice A n c] 30))
  have h_l := Lib.hid (h.rlen opCells_len' (by decide))
  have HX0 : RowKit.Hid (Whole (w.alloc (.cells #[.int .i64 k1, .int .i64 k2, .int .i64 k3, .int .i64 k4, .slice A n c] 30)) w.heap.size 30 [.int .i64 k1, .int .i64 k2, .int .i64 k3, .int .i64 k4, .slice A n c]) := Lib.hid (Whole.new_ _ _ [.int .i64 k1, .int .i64 k2, .int .i64 k3, .int .i64 k4, .slice A n c])
  have HB0 : RowKit.Hid (Below w.heap.size w (w.alloc (.cells #[.int .i64 k1, .int .i64 k2, .int .i64 k3, .int .i64 k4, .slice A n c] 30))) := Lib.hid (below1 _ _)
  clear h ht
  go_enter Try.func14, Try.ntmps14
  go_upto_region 1 with fail
  obtain ⟨W0, gW0⟩ : ∃ z, w.alloc (.cells #[.int .i64 k1, .int .i64 k2, .int .i64 k3, .int .i64 k4, .slice A n c] 30) = z := ⟨_, rfl⟩
  obtain ⟨b0, gb0⟩ : ∃ z, w.heap.size = z := ⟨_, rfl⟩
  have Gb0 := Lib.hid gb0
  rw [gW0] at HR0 HX0 HB0 ⊢
  rw [gb0] at HX0 ⊢
  clear gW0 gb0
  have lx0 : ∀ w', Kept Nil_ W0.drew w' → w'.cell? ⟨b0, 0, none⟩ = some (.int .i64 k1) := fun w' h => h.nil_cell (HX0.out.dr.cell (i := 0) rfl)
  have lx1 : ∀ w', Kept Nil_ W0.drew w' → w'.cell? ⟨b0, 1, none⟩ = some (.int .i64 k2) := fun w' h => h.nil_cell (HX0.out.dr.cell (i := 1) rfl)
  have lx2 : ∀ w', Kept Nil_ W0.drew w' → w'.cell? ⟨b0, 2, none⟩ = some (.int .i64 k3) := fun w' h => h.nil_cell (HX0.out.dr.cell (i := 2) rfl)
  have lx3 : ∀ w', Kept Nil_ W0.drew w' → w'.cell? ⟨b0, 3, none⟩ = some (.int .i64 k4) := fun w' h => h.nil_cell (HX0.out.dr.cell (i := 3) rfl)
  refine wp_region_reg (Nil_) (by kernel_rfl) ?_
  refine opR_ 0 5 (v := ?_) ?_ ?_; rotate_left
  · intro w' hw'; go_simp; (try with_reducible rfl)
  simp only [st0_, st1_]
  refine opR_ 1 6 (v := ?_) ?_ ?_; rotate_left
  · intro w' hw'; go_simp; (try with_reducible rfl)
  simp only [st0_, st1_]
  refine opR_ 3 8 (v := ?_) ?_ ?_; rotate_left
  · intro w' hw'; go_simp; (try with_reducible rfl)
  simp only [st0_, st1_]
  refine opR_ 4 9 (v := ?_) ?_ ?_; rotate_left
  · intro w' hw'; go_simp; (try with_reducible rfl)
  simp only [st0_, st1_]
  refine opR_ 6 11 (v := ?_) ?_ ?_; rotate_left
  · intro w' hw'; go_simp; (try with_reducible rfl)
  simp only [st0_, st1_]
  refine opR_ 7 12 (v := ?_) ?_ ?_; rotate_left
  · intro w' hw'; go_simp; (try with_reducible rfl)
  simp only [st0_, st1_]
  refine opR_ 9 14 (v := ?_) ?_ ?_; rotate_left
  · intro w' hw'; go_simp; (try with_reducible rfl)
  simp only [st0_, st1_]
  refine opR_ 10 15 (v := ?_) ?_ ?_; rotate_left
  · intro w' hw'; go_simp; (try with_reducible rfl)
  simp only [st0_, st1_]
  apply wpR_call 2 (some 7)
  · rfl
  · rfl
  · kernel_rfl
  · rfl
  · intro w'; go_simp; first | done | exact ⟨rfl, rfl⟩ | with_reducible rfl
  intro w' hw'
  refine (rnum_b none 0 0 [] k1 w' (by simp [be8_len]) (rds_nil _ _ _) (by omega) 8 rfl).mono ?_
  rintro e v0 ⟨A0, c0, rfl, ho, hb⟩
  have HN0 := Lib.hid ho
  have HK0 : RowKit.Hid (Ext W0.drew v0) := Lib.hid (Ext.trans hw' hb)
  have lx1_0 := fun w'' (h : Kept Nil_ v0 w'') => lx1 w'' ((Kept.of_ext hw').trans ((Kept.of_below hb).trans h))
  have lx2_0 := fun w'' (h : Kept Nil_ v0 w'') => lx2 w'' ((Kept.of_ext hw').trans ((Kept.of_below hb).trans h))
  have lx3_0 := fun w'' (h : Kept Nil_ v0 w'') => lx3 w'' ((Kept.of_ext hw').trans ((Kept.of_below hb).trans h))
  refine ⟨_, rfl, Kept.of_below hb, ?_⟩
  clear ho hb hw'
  simp only [Act.put, stA_, st0_, st1_]
  apply wpR_call 5 (some 10)
  · rfl
  · rfl
  · kernel_rfl
  · rfl
  · intro w'; go_simp; first | done | exact ⟨rfl, rfl⟩ | with_reducible rfl
  intro w' hw'
  refine (rnum_b A0 8 c0 ([] ++ be8 k1) k2 w' (by simp [be8_len]) (own_rds (own_up HN0.out hw')) (by omega) 16 rfl).mono ?_
  rintro e v1 ⟨A1, c1, rfl, ho, hb⟩
  have HN1 := Lib.hid ho
  have HK1 : RowKit.Hid (Ext W0.drew v1) := Lib.hid (Ext.trans (Ext.trans HK0.out hw') hb)
  have lx2_1 := fun w'' (h : Kept Nil_ v1 w'') => lx2_0 w'' ((Kept.of_ext hw').trans ((Kept.of_below hb).trans h))
  have lx3_1 := fun w'' (h : Kept Nil_ v1 w'') => lx3_0 w'' ((Kept.of_ext hw').trans ((Kept.of_below hb).trans h))
  refine ⟨_, rfl, Kept.of_below hb, ?_⟩
  clear ho hb hw' HN0 HK0
  simp only [Act.put, stA_, st0_, st1_]
  apply wpR_call 8 (some 13)
  · rfl
  · rfl
  · kernel_rfl
  · rfl
  · intro w'; go_simp; first | done | exact ⟨rfl, rfl⟩ | with_reducible rfl
  intro w' hw'
  refine (rnum_b A1 16 c1 (([] ++ be8 k1) ++ be8 k2) k3 w' (by simp [be8_len]) (own_rds (own_up HN1.out hw')) (by omega) 24 rfl).mono ?_
  rintro e v2 ⟨A2, c2, rfl, ho, hb⟩
  have HN2 := Lib.hid ho
  have HK2 : RowKit.Hid (Ext W0.drew v2) := Lib.hid (Ext.trans (Ext.trans HK1.out hw') hb)
  have lx3_2 := fun w'' (h : Kept Nil_ v2 w'') => lx3_1 w'' ((Kept.of_ext hw').trans ((Kept.of_below hb).trans h))
  refine ⟨_, rfl, Kept.of_below hb, ?_⟩
  clear ho hb hw' HN1 HK1
  simp only [Act.put, stA_, st0_, st1_]
  apply wpR_call 11 (some 16)
  · rfl
  · rfl
  · kernel_rfl
  · rfl
  · intro w'; go_simp; first | done | exact ⟨rfl, rfl⟩ | with_reducible rfl
  intro w' hw'
  refine (rnum_b A2 24 c2 ((([] ++ be8 k1) ++ be8 k2) ++ be8 k3) k4 w' (by simp [be8_len]) (own_rds (own_up HN2.out hw')) (by omega) 32 rfl).mono ?_
  rintro e v3 ⟨A3, c3, rfl, ho, hb⟩
  have HN3 := Lib.hid ho
  have HK3 : RowKit.Hid (Ext W0.drew v3) := Lib.hid (Ext.trans (Ext.trans HK2.out hw') hb)
  have HLo : RowKit.Hid (w.heap.size ≤ w'.heap.size) := Lib.hid (Nat.le_trans HB0.out.size (show W0.heap.size ≤ w'.heap.size from (Below.size (Ext.trans HK2.out hw') : W0.drew.heap.size ≤ w'.heap.size)))
  replace HN3 := Lib.hid (own_lo8 HN3.out HLo.out)
  refine ⟨_, rfl, Kept.of_below hb, ?_⟩
  clear ho hb hw' HN2 HK2
  simp only [Act.put, stA_, st0_, st1_]
  refine opR_ 12 4 (v := ?_) ?_ ?_; rotate_left
  · intro w' hw'; go_simp; (try with_reducible rfl)
  simp only [st0_, st1_]
  refine wpR_done (by kernel_rfl) ?_ _
  intro W5 hw5
  have hw6 := Ext.trans HK3.out hw5
  have HX := Lib.hid (HX0.out.bl (bel_bl (bel_dr (Below.refl W0.heap.size W0)) hw6))
  have HR := Lib.hid (HR0.out.bl (bel_bl (bel_dr (Below.refl W0.heap.size W0)) hw6))
  have HB := Lib.hid (bel_bl HB0.out (bel_bl (bel_dr (Below.refl W0.heap.size W0)) hw6))
  obtain ⟨wz, gwz⟩ : ∃ z, W5 = z := ⟨_, rfl⟩
  have ho := own_up HN3.out hw5
  have he : (((([] ++ be8 k1) ++ be8 k2) ++ be8 k3) ++ be8 k4) = h4B (k1, k2, k3, k4) := by simp [h4B, List.append_assoc]
  rw [he] at ho
  obtain ⟨A1, gA1⟩ : ∃ z, A3 = z := ⟨_, rfl⟩
  obtain ⟨c1, gc1⟩ : ∃ z, c3 = z := ⟨_, rfl⟩
  rw [gwz] at HX HR HB ho ⊢
  rw [gA1, gc1] at ho ⊢
  have HO : RowKit.Hid (wz.ownsRow w.heap.size 5 1 (.slice A1 32 c1) 32 (rowsV f8 (h4B (k1, k2, k3, k4)))) := Lib.hid ho
  have x4 := HX.out.cell (i := 4) rfl
  clear ho he gwz gA1 gc1 hw5 hw6 HN3 HK3 HLo HR0 HX0 HB0 lx3_2
  by_cases hL0 : L = []
  · subst hL0
    have hn0 : n = 0 := (h_l.out).symm.trans rfl
    have hz1 : ((n : Int) == 0) = true := by rw [hn0]; rfl
    have hP := sdP_nil (k1, k2, k3, k4)
    have HP : RowKit.Hid (GivesP w ((k1, k2, k3, k4), []) (.returned (.tuple #[.slice A1 32 c1, .int .i64 0])) wz) := Lib.hid (by
      unfold GivesP
      rw [hP.1, hP.2, h4B_len]
      exact ⟨A1, c1, rfl, HO.out, HB.out⟩)
    clear hn0 hP HR HO
    go_wp2
    refine bodyPost_ret (v := .tuple #[.slice A1 32 c1, .int .i64 0]) (by simp [results, Try.results14, go_sem]) rfl ?_
    exact HP.out
  · have hn1 : 0 < n := by rw [← h_l.out]; exact List.length_pos_iff.2 hL0
    have hz1 : ((n : Int) == 0) = false := beq_eq_false_iff_ne.2 (by omega)
    have hP := sdP_ops (k1, k2, k3, k4) hL0
    have HPt := Lib.hid hP
    clear hP hL0 hn1
    go_wp2_with fail
    refine (rput10_any A1 32 c1 (h4B (k1, k2, k3, k4)) A n c L _ (h4B_len _) (own_rds HO.out) (by omega) HR.out hn HTx.out).mono ?_
    rintro e w5 ⟨A5, c5, rfl, ho5, hb5⟩
    have HP : RowKit.Hid (GivesP w ((k1, k2, k3, k4), L) (.returned (.tuple #[.slice A5 (pE (h4B (k1, k2, k3, k4)) L).length c5, .int .i64 (mayE L)])) w5) := Lib.hid (by
      unfold GivesP
      rw [HPt.out.1, HPt.out.2]
      exact ⟨A5, c5, rfl, own_lo8 ho5 HB.out.size, bel_bl HB.out hb5⟩)
    clear ho5 hb5 HR HO HPt
    go_wp2
    refine bodyPost_ret (v := .tuple #[.slice A5 (pE (h4B (k1, k2, k3, k4)) L).length c5, .int .i64 (mayE L)]) (by simp [results, Try.results14, go_sem]) rfl ?_
    exact HP.out
end Go.Proofs.Ytinfbaflkjghhaa
/- Take: bytes taken as a step, and the document's own. -/
namespace Go.Proofs.Ytinfbaflkjghhaa
open Go.RowKit
theorem rds_mid {w : World} {Bd n c i k m : Nat} {A : Option Addr} {L : List Nat} (h : RdS w Bd 1 A n c (rowsV f8 L)) (hik : i ≤ k) (hk : k ≤ n) (hm : k - i = m) : RdS w Bd 1 (if c = i then A else A.map (·.add (i * 1))) m (c - i) (rowsV f8 ((L.take k).drop i)) := by
  subst hm
  have h1 := (h.take_ k hk).low_ hik
  rw [rowsV_drop f8 f8_len, rowsV_take f8 f8_len]
  exact h1
theorem rds_low8 {w : World} {Bd n c i m : Nat} {A : Option Addr} {L : List Nat} (h : RdS w Bd 1 A n c (rowsV f8 L)) (hi : i ≤ n) (hm : n - i = m) : RdS w Bd 1 (if c = i then A else A.map (·.add (i * 1))) m (c - i) (rowsV f8 (L.drop i)) := by
  subst hm
  have h1 := h.low_ hi
  rw [rowsV_drop f8 f8_len]
  exact h1
theorem takenum_p (A : Option Addr) (c : Nat) (L : List Nat) (w : World) (hl : L.length = 8) (h : RdS w w.heap.size 1 A 8 c (rowsV f8 L)) (hb : ∀ b ∈ L, b < 256) (y : Int) (hy : num8 L = y) : Calls Try.prog 20 #[.slice A 8 c] w fun e w' => ∃ A' n' c', e = .returned (.tuple #[.int .i64 y, .slice A' n' c', .bool true]) ∧ Below w.heap.size w w' := by
  have e := takenum_any A c L w (by rw [hl]; exact h) (by omega) hb
  rw [hl] at e
  refine e.mono ?_
  rintro e w' ⟨A', n', c', rfl, -, -, h4⟩
  rw [if_pos (by omega), List.take_of_length_le (by omega), hy, decide_eq_true (show 8 ≤ L.length by omega)]
  exact ⟨A', n', c', rfl, h4⟩
theorem rtakenum_p (A : Option Addr) (n c : Nat) (L : List Nat) (w : World) (hl : 8 ≤ L.length) (h : RdS w w.heap.size 1 A n c (rowsV f8 L)) (hn : n ≤ 100000) (hb : ∀ b ∈ L, b < 256) (y : Int) (hy : num8 (L.take 8) = y) : Calls Try.prog 22 #[.slice A n c] w fun e w' => ∃ A' n' c', e = .returned (.tuple #[.int .i64 y, .slice A' n' c', .bool true]) ∧ Below w.heap.size w w' := by
  refine (rtakenum_any A n c L w h hn hb).mono ?_
  rintro e w' ⟨A', n', c', rfl, -, -, h4⟩
  rw [if_pos hl, hy, decide_eq_true hl]
  exact ⟨A', n', c', rfl, h4⟩
theorem owhole_p (A : Option Addr) (n c : Nat) (B : List Nat) (w : World) (hl : B.length = n) (h : RdS w w.heap.size 1 A n c (rowsV f8 B)) (hn : n ≤ 90000) (hb : ∀ b ∈ B, b < 256) :
    Calls Try.prog 21 #[.slice A n c] w fun e w' => ∃ A1 k1, e = .returned (.tuple #[.agg #[.slice A1 (whV B).length k1], .int .i64 (whE B)]) ∧ w'.ownsRow w.heap.size 53 20 (.slice A1 (whV B).length k1) (whV B).length (rowsV opCells (whV B)) ∧ Below w.heap.size w w' := by
  subst hl
  exact owhole_any A c B w h hn hb
def h4A (x : H4) (k : Nat) : List Value := [.int .i64 (if 0 < k then x.1 else 0), .int .i64 (if 1 < k then x.2.1 else 0), .int .i64 (if 2 < k then x.2.2.1 else 0), .int .i64 (if 3 < k then x.2.2.2 else 0)]
theorem h4A_set (x : H4) (k : Nat) (hk : k < 4) : (h4A x k).set k (.int .i64 (h4G x k)) = h4A x (k + 1) := by
  have : k = 0 ∨ k = 1 ∨ k = 2 ∨ k = 3 := by omega
  rcases this with rfl | rfl | rfl | rfl <;> rfl
theorem h4A_get (x : H4) (k : Nat) (hk : k < 4) : (h4A x k)[k]? = some (.int .i64 0) := by
  have : k = 0 ∨ k = 1 ∨ k = 2 ∨ k = 3 := by omega
  rcases this with rfl | rfl | rfl | rfl <;> rfl
theorem h4V_get {B : List Nat} {k : Nat} (hk : k < 4) (hl : 32 ≤ B.length) : num8 ((B.take (8 * (k + 1))).drop (8 * k)) = h4G (h4V B) k ∧ ((B.take (8 * (k + 1))).drop (8 * k)).length = 8 := by
  have e : (B.take (8 * (k + 1))).drop (8 * k) = (B.drop (8 * k)).take 8 := by rw [List.drop_take]; congr 1; omega
  rw [e]
  refine ⟨?_, by rw [List.length_take, List.length_drop]; omega⟩
  have : k = 0 ∨ k = 1 ∨ k = 2 ∨ k = 3 := by omega
  rcases this with rfl | rfl | rfl | rfl <;> rfl
/-- A step of the call's own, and an error. -/
def GivesS (w : World) (x : SD) (E : Int) (e : Ending) (w' : World) : Prop :=
  ∃ A n c, e = .returned (.tuple #[.agg (stC (x.1, (A, n, c, x.2))).toArray, .int .i64 E]) ∧ n = x.2.length ∧ w'.ownsRow w.heap.size 53 20 (.slice A n c) n (rowsV opCells x.2) ∧ Below w.heap.size w w'
theorem tk_no {B : List Nat} (h : okS B = false) : tkS B = zS ∧ tkSE B = 240 := by
  unfold tkS tkSE
  rw [h]
  exact ⟨rfl, rfl⟩
theorem tk_yes {B : List Nat} (h : okS B = true) : tkS B = (h4V B, whV (B.drop 32)) ∧ tkSE B = 0 := by
  unfold tkS tkSE
  rw [h]
  exact ⟨rfl, rfl⟩
theorem okS_short {B : List Nat} (h : B.length < 32) : okS B = false := by
  unfold okS
  rw [decide_eq_false (by omega), decide_eq_false (by omega)]
  rfl
theorem okS_head {B : List Nat} (h : B.length = 32) : okS B = true ∧ whV (B.drop 32) = [] := by
  unfold okS
  rw [decide_eq_true h, List.drop_eq_nil_of_le (by omega), whV_nil]
  exact ⟨rfl, rfl⟩
theorem okS_long {B : List Nat} (h : 32 < B.length) : okS B = okW (B.drop 32) := by
  unfold okS
  rw [decide_eq_false (by omega), decide_eq_true h]
  simp
theorem gives_no {w W : World} {B : List Nat} (h : okS B = false) (hb : Below w.heap.size w W) : GivesS w (tkS B) (tkSE B) (.returned (.tuple #[.agg #[.int .i64 0, .int .i64 0, .int .i64 0, .int .i64 0, .slice none 0 0], .int .i64 240])) W := by
  rw [(tk_no h).1, (tk_no h).2]
  exact ⟨none, 0, 0, rfl, rfl, World.ownsRow_nil _ _ _ _, hb⟩
set_option maxRecDepth 100000 in
set_option maxHeartbeats 4000000 in
theorem take23_any (A : Option Addr) (n c : Nat) (B : List Nat) (w : World) (hl : B.length = n) (h : RdS w w.heap.size 1 A n c (rowsV f8 B)) (hn : n ≤ 90000) (hb : ∀ b ∈ B, b < 256) :
    Calls Try.prog 10 #[.slice A n c] w (GivesS w (tkS B) (tkSE B)) := by
  have HR := Lib.hid (h.al (.cells #[.int .i64 0, .int .i64 0, .int .i64 0, .int .i64 0, .slice none 0 0] 30))
  have HX : RowKit.Hid (Whole (w.alloc (.cells #[.int .i64 0, .int .i64 0, .int .i64 0, .int .i64 0, .slice none 0 0] 30)) w.heap.size 30 [.int .i64 0, .int .i64 0, .int .i64 0, .int .i64 0, .slice none 0 0]) := Lib.hid (Whole.new_ _ _ [.int .i64 0, .int .i64 0, .int .i64 0, .int .i64 0, .slice none 0 0])
  have HB : RowKit.Hid (Below w.heap.size w (w.alloc (.cells #[.int .i64 0, .int .i64 0, .int .i64 0, .int .i64 0, .slice none 0 0] 30))) := Lib.hid (below1 _ _)
  have Hl := Lib.hid hl
  have Hb := Lib.hid hb
  clear h hl hb
  go_enter Try.func10, Try.ntmps10
  go_upto_region 1 with fail
  obtain ⟨W0, gW0⟩ : ∃ z, w.alloc (.cells #[.int .i64 0, .int .i64 0, .int .i64 0, .int .i64 0, .slice none 0 0] 30) = z := ⟨_, rfl⟩
  obtain ⟨b2, gb2⟩ : ∃ z, w.heap.size = z := ⟨_, rfl⟩
  have Lb2 : RowKit.Hid (w.heap.size ≤ b2) := Lib.hid (Nat.le_of_eq gb2)
  rw [gW0] at HR HX HB ⊢
  rw [gb2] at HX ⊢
  clear gW0 gb2
  have HX0 := HX
  have HR0 := HR
  have HB0 := HB
  clear HX HR HB
  by_cases hs : n < 32
  · have hok := okS_short (show B.length < 32 by rw [Hl.out]; exact hs)
    have hz0 : decide ((n : Int) < 32) = true := decide_eq_true (by omega)
    have HY := Lib.hid (((((HX0.out.set_ 0 (.int .i64 0)).set_ 1 (.int .i64 0)).set_ 2 (.int .i64 0)).set_ 3 (.int .i64 0)).set_ 4 (.slice none 0 0))
    have HP : RowKit.Hid (GivesS w (tkS B) (tkSE B) (.returned (.tuple #[.agg #[.int .i64 0, .int .i64 0, .int .i64 0, .int .i64 0, .slice none 0 0], .int .i64 240])) ((((((W0.setCell ⟨b2, 0, none⟩ (.int .i64 0)).setCell ⟨b2, 1, none⟩ (.int .i64 0)).setCell ⟨b2, 2, none⟩ (.int .i64 0)).setCell ⟨b2, 3, none⟩ (.int .i64 0)).setCell ⟨b2, 4, none⟩ (.slice none 0 0)))) := Lib.hid (gives_no hok (((((HB0.out.setCell (p := ⟨b2, 0, none⟩) Lb2.out (.int .i64 0)).setCell (p := ⟨b2, 1, none⟩) Lb2.out (.int .i64 0)).setCell (p := ⟨b2, 2, none⟩) Lb2.out (.int .i64 0)).setCell (p := ⟨b2, 3, none⟩) Lb2.out (.int .i64 0)).setCell (p := ⟨b2, 4, none⟩) Lb2.out (.slice none 0 0)))
    have f0 := HX0.out.free 0
    have f1 := HX0.out.free 1
    have f2 := HX0.out.free 2
    have f3 := HX0.out.free 3
    have f4 := HX0.out.free 4
    have k0 := HX0.out.cell (i := 0) rfl
    have k1 := HX0.out.cell (i := 1) rfl
    have k2 := HX0.out.cell (i := 2) rfl
    have k3 := HX0.out.cell (i := 3) rfl
    have k4 := HX0.out.cell (i := 4) rfl
    clear hok HX0 HR0 HB0
    go_wp2
    exact ret_whole2 rfl b2 rfl rfl HY.out Try.underlying30 rfl (by kernel_rfl) rfl HP.out
  · have hz0 : decide ((n : Int) < 32) = false := decide_eq_false (by omega)
    have h32 : 32 ≤ B.length := by rw [Hl.out]; omega
    obtain ⟨⟨x1, x2, x3, x4⟩, gx⟩ : ∃ z, h4V B = z := ⟨_, rfl⟩
    have Hx := Lib.hid gx
    have H32 := Lib.hid h32
    clear gx h32
    go_upto_region 5 with fail
    have hR := HR0.out.al (.cells #[.int .i64 0, .int .i64 0, .int .i64 0, .int .i64 0] 54)
    have hX := HX0.out.al (.cells #[.int .i64 0, .int .i64 0, .int .i64 0, .int .i64 0] 54)
    have hB := bel_al HB0.out (.cells #[.int .i64 0, .int .i64 0, .int .i64 0, .int .i64 0] 54)
    have hA : Whole (W0.alloc (.cells #[.int .i64 0, .int .i64 0, .int .i64 0, .int .i64 0] 54)) W0.heap.size 54 (h4A (x1, x2, x3, x4) 0) := Whole.new_ W0 54 [.int .i64 0, .int .i64 0, .int .i64 0, .int .i64 0]
    obtain ⟨W1, gW1⟩ : ∃ z, W0.alloc (.cells #[.int .i64 0, .int .i64 0, .int .i64 0, .int .i64 0] 54) = z := ⟨_, rfl⟩
    have hlt4 : b2 < W0.heap.size := HX0.out.lt
    have hlw : w.heap.size ≤ W0.heap.size := HB0.out.size
    obtain ⟨b4, gb4⟩ : ∃ z, W0.heap.size = z := ⟨_, rfl⟩
    rw [gW1] at hR hX hB hA ⊢
    rw [gb4] at hA hlt4 hlw ⊢
    have HR1 := Lib.hid hR
    have HX1 := Lib.hid hX
    have HB1 := Lib.hid hB
    have HA1 := Lib.hid hA
    have N24 : RowKit.Hid (b2 ≠ b4) := Lib.hid (by omega)
    have Lb4 : RowKit.Hid (w.heap.size ≤ b4) := Lib.hid hlw
    have HAf1 : RowKit.Hid (∀ a, A = some a → 0 < n → a.block ≠ b4) := Lib.hid (fun a ha h0 => by have := HR0.out.low a ha h0; omega)
    clear hR hX hB hA gW1 gb4 hlt4 hlw HX0 HR0 HB0
    go_loopw [13] (fun i wr => ∃ k : Nat, k ≤ 4 ∧ i = .int .i64 (k : Int) ∧ RowKit.Hid (Whole wr b4 54 (h4A (x1, x2, x3, x4) k)) ∧ RowKit.Hid (Whole wr b2 30 [.int .i64 0, .int .i64 0, .int .i64 0, .int .i64 0, .slice none 0 0]) ∧ RowKit.Hid (RdS wr wr.heap.size 1 A n c (rowsV f8 B)) ∧ RowKit.Hid (Below w.heap.size w wr)) (fun i _ => 4 - (intOf i).toNat)
    case atStart => exact ⟨0, by omega, rfl, HA1, HX1, HR1, HB1⟩
    case round =>
      clear HA1 HX1 HR1 HB1
      obtain ⟨k, hk, rfl, HA, HX, HR, HB⟩ := hrel
      obtain ⟨wz, gwz⟩ : ∃ z, wr = z := ⟨_, rfl⟩
      rw [gwz] at HA HX HR HB ⊢
      clear gwz
      by_cases hlt : k < 4
      · have hltI : (k : Int) < 4 := by omega
        obtain ⟨k1, gk1⟩ : ∃ z, k + 1 = z := ⟨_, rfl⟩
        obtain ⟨i8, gi8⟩ : ∃ z, 8 * k = z := ⟨_, rfl⟩
        obtain ⟨j8, gj8⟩ : ∃ z, 8 * k1 = z := ⟨_, rfl⟩
        have e1 : IntKind.i64.wrap ((k : Int) * 8) = (i8 : Int) := by rw [show (k : Int) * 8 = (i8 : Int) by omega]; exact IntWalk.i64_in _ (by omega)
        have e2 : IntKind.i64.wrap ((k : Int) + 1) = (k1 : Int) := by rw [show (k : Int) + 1 = (k1 : Int) by omega]; exact IntWalk.i64_in _ (by omega)
        have e3 : IntKind.i64.wrap ((k1 : Int) * 8) = (j8 : Int) := by rw [show (k1 : Int) * 8 = (j8 : Int) by omega]; exact IntWalk.i64_in _ (by omega)
        have hg := h4V_get hlt H32.out
        rw [Hx.out] at hg
        have hset := h4A_set (x1, x2, x3, x4) k hlt
        obtain ⟨y, gy⟩ : ∃ z, h4G (x1, x2, x3, x4) k = z := ⟨_, rfl⟩
        rw [gy] at hg hset
        rw [gk1, gi8, gj8] at hg
        rw [gk1] at hset
        have hcs : i8 ≤ j8 ∧ j8 ≤ n ∧ j8 - i8 = 8 := by omega
        obtain ⟨As, gAs⟩ : ∃ z, (if c = i8 then A else A.map (·.add (i8 * 1))) = z := ⟨_, rfl⟩
        obtain ⟨cs, gcs⟩ : ∃ z, c - i8 = z := ⟨_, rfl⟩
        have hrs := rds_mid HR.out hcs.1 hcs.2.1 hcs.2.2
        rw [gAs, gcs] at hrs
        have HRs := Lib.hid hrs
        have HG := Lib.hid hg
        have HSet := Lib.hid hset
        have HAs := Lib.hid gAs
        have Hcs := Lib.hid (show i8 ≤ j8 ∧ j8 ≤ c ∧ j8 - i8 = 8 from ⟨hcs.1, Nat.le_trans hcs.2.1 HR.out.le, hcs.2.2⟩)
        have Hgc := Lib.hid gcs
        have HLt : RowKit.Hid (∀ b ∈ (B.take j8).drop i8, b < 256) := Lib.hid (fun b hb => Hb.out b (List.mem_of_mem_take (List.mem_of_mem_drop hb)))
        have ha4 := HA.out.cell (i := k) (h4A_get _ k hlt)
        have fa4 := HA.out.free k
        have Hk1 := Lib.hid gk1
        clear hrs hg hset gAs gcs hcs gy gi8 gj8 gk1 ha4 fa4
        go_upto_region 7 with fail
        refine wp_region_lit ?_
        refine wl_read (v := ?_) (some 17) rfl (by rfl) ?_ ?_
        rotate_left
        · go_simp; (try with_reducible rfl)
        simp only [Act.put, stA_, st0_, st1_]
        refine wl_read (v := ?_) (some 18) rfl (by rfl) ?_ ?_
        rotate_left
        · go_simp; (try with_reducible rfl)
        simp only [Act.put, stA_, st0_, st1_]
        refine wl_read (v := ?_) (some 19) rfl (by rfl) ?_ ?_
        rotate_left
        · go_simp; (try with_reducible rfl)
        simp only [Act.put, stA_, st0_, st1_]
        refine wl_read (v := ?_) (some 20) rfl (by rfl) ?_ ?_
        rotate_left
        · go_simp; (try with_reducible rfl)
        simp only [Act.put, stA_, st0_, st1_]
        refine wl_read (v := ?_) (some 21) rfl (by rfl) ?_ ?_
        rotate_left
        · go_simp; (try with_reducible rfl)
        simp only [Act.put, stA_, st0_, st1_]
        refine wl_read (v := ?_) (some 22) rfl (by rfl) ?_ ?_
        rotate_left
        · go_simp; (try with_reducible rfl)
        simp only [Act.put, stA_, st0_, st1_]
        refine wl_read (v := ?_) (some 23) rfl (by rfl) ?_ ?_
        rotate_left
        · go_simp; (try with_reducible rfl)
        simp only [Act.put, stA_, st0_, st1_]
        refine wl_run (some 24) rfl (by rfl) (exec_slice_as 23 5 (.tmp 18) (.tmp 20) (.tmp 23) rfl Try.underlying23 (s := 1) (by kernel_rfl) rfl rfl rfl Hcs.out.1 Hcs.out.2.1 HAs.out Hcs.out.2.2 Hgc.out) ?_
        simp only [Act.put, stA_, st0_, st1_]
        go_wp2_with fail
        refine (takenum_p As cs _ _ HG.out.2 HRs.out HLt.out y HG.out.1).mono ?_
        rintro e w3 ⟨A3, n3, c3, rfl, hb3⟩
        have HA3 := Lib.hid (HA.out.bl hb3)
        have ha4 := HA3.out.cell (i := k) (h4A_get _ k hlt)
        have fa4 := HA3.out.free k
        have HA4 := HA3.out.set_ k (.int .i64 y)
        rw [HSet.out] at HA4
        have HA5 := Lib.hid HA4
        have HX5 := Lib.hid ((HX.out.bl hb3).far (p := ⟨b4, k, none⟩) (show b2 ≠ b4 from N24.out) (.int .i64 y))
        have HR5 : RowKit.Hid (RdS (w3.setCell ⟨b4, k, none⟩ (.int .i64 y)) (w3.setCell ⟨b4, k, none⟩ (.int .i64 y)).heap.size 1 A n c (rowsV f8 B)) := Lib.hid ((HR.out.bl hb3).far (p := ⟨b4, k, none⟩) (fun h0 a ha => HAf1.out a ha h0) (.int .i64 y))
        have HB5 := Lib.hid ((bel_bl HB.out hb3).setCell (p := ⟨b4, k, none⟩) Lb4.out (.int .i64 y))
        clear HA4 hb3 HA HX HR HB HA3 HG HRs HSet HLt e1 e3
        go_wp2
        go_roundw
        case rel => exact ⟨k + 1, by omega, by first | go_num | (rw [Hk1.out]), by rw [Hk1.out]; exact HA5, HX5, HR5, HB5⟩
        case measure => have := Hk1.out; simp [intOf]; omega
      · obtain rfl : 4 = k := by omega
        have HA4 : RowKit.Hid (Whole wz b4 54 [.int .i64 x1, .int .i64 x2, .int .i64 x3, .int .i64 x4]) := Lib.hid HA.out
        have a0 := HA4.out.cell (i := 0) rfl
        have a1 := HA4.out.cell (i := 1) rfl
        have a2 := HA4.out.cell (i := 2) rfl
        have a3 := HA4.out.cell (i := 3) rfl
        clear HA hk hlt
        go_upto_region 10 with fail
        have hT : Whole (wz.alloc (.cells #[.int .i64 x1, .int .i64 x2, .int .i64 x3, .int .i64 x4, .slice none 0 0] 30)) wz.heap.size 30 [.int .i64 x1, .int .i64 x2, .int .i64 x3, .int .i64 x4, .slice none 0 0] := Whole.new_ wz 30 [.int .i64 x1, .int .i64 x2, .int .i64 x3, .int .i64 x4, .slice none 0 0]
        have hX := HX.out.al (.cells #[.int .i64 x1, .int .i64 x2, .int .i64 x3, .int .i64 x4, .slice none 0 0] 30)
        have hR := HR.out.al (.cells #[.int .i64 x1, .int .i64 x2, .int .i64 x3, .int .i64 x4, .slice none 0 0] 30)
        have hB := bel_al HB.out (.cells #[.int .i64 x1, .int .i64 x2, .int .i64 x3, .int .i64 x4, .slice none 0 0] 30)
        have hl2 : b2 < wz.heap.size := HX.out.lt
        have hlw : w.heap.size ≤ wz.heap.size := HB.out.size
        obtain ⟨wy, gwy⟩ : ∃ z, wz.alloc (.cells #[.int .i64 x1, .int .i64 x2, .int .i64 x3, .int .i64 x4, .slice none 0 0] 30) = z := ⟨_, rfl⟩
        obtain ⟨bt, gbt⟩ : ∃ z, wz.heap.size = z := ⟨_, rfl⟩
        rw [gwy] at hT hX hR hB ⊢
        rw [gbt] at hT hl2 hlw ⊢
        have N2t : RowKit.Hid (b2 ≠ bt) := Lib.hid (by omega)
        have Lbt : RowKit.Hid (w.heap.size ≤ bt) := Lib.hid hlw
        clear gwy gbt hl2 hlw HA4 a0 a1 a2 a3 HX HR HB wz
        obtain ⟨wz, gwz⟩ : ∃ z, wy = z := ⟨_, rfl⟩
        rw [gwz] at hT hX hR hB ⊢
        clear gwz
        have HX := Lib.hid hX
        have HT := Lib.hid hT
        have HR := Lib.hid hR
        have HB := Lib.hid hB
        clear hX hT hR hB
        by_cases h32 : n = 32
        · have ho := okS_head (Hl.out.trans h32)
          have hv : tkS B = ((x1, x2, x3, x4), []) ∧ tkSE B = 0 := by
            have := tk_yes ho.1
            rw [ho.2, Hx.out] at this
            exact this
          have HY := Lib.hid (((((HX.out.set_ 0 (.int .i64 x1)).set_ 1 (.int .i64 x2)).set_ 2 (.int .i64 x3)).set_ 3 (.int .i64 x4)).set_ 4 (.slice none 0 0))
          have HP : RowKit.Hid (GivesS w (tkS B) (tkSE B) (.returned (.tuple #[.agg #[.int .i64 x1, .int .i64 x2, .int .i64 x3, .int .i64 x4, .slice none 0 0], .int .i64 0])) ((((((wz.setCell ⟨b2, 0, none⟩ (.int .i64 x1)).setCell ⟨b2, 1, none⟩ (.int .i64 x2)).setCell ⟨b2, 2, none⟩ (.int .i64 x3)).setCell ⟨b2, 3, none⟩ (.int .i64 x4)).setCell ⟨b2, 4, none⟩ (.slice none 0 0)))) := Lib.hid (by
            rw [hv.1, hv.2]
            exact ⟨none, 0, 0, rfl, rfl, World.ownsRow_nil _ _ _ _, (((((HB.out.setCell (p := ⟨b2, 0, none⟩) Lb2.out (.int .i64 x1)).setCell (p := ⟨b2, 1, none⟩) Lb2.out (.int .i64 x2)).setCell (p := ⟨b2, 2, none⟩) Lb2.out (.int .i64 x3)).setCell (p := ⟨b2, 3, none⟩) Lb2.out (.int .i64 x4)).setCell (p := ⟨b2, 4, none⟩) Lb2.out (.slice none 0 0))⟩)
          have f0 := HX.out.free 0
          have f1 := HX.out.free 1
          have f2 := HX.out.free 2
          have f3 := HX.out.free 3
          have f4 := HX.out.free 4
          have k0 := HX.out.cell (i := 0) rfl
          have k1 := HX.out.cell (i := 1) rfl
          have k2 := HX.out.cell (i := 2) rfl
          have k3 := HX.out.cell (i := 3) rfl
          have k4 := HX.out.cell (i := 4) rfl
          have t0 := HT.out.cell (i := 0) rfl
          have t1 := HT.out.cell (i := 1) rfl
          have t2 := HT.out.cell (i := 2) rfl
          have t3 := HT.out.cell (i := 3) rfl
          have t4 := HT.out.cell (i := 4) rfl
          have hz1 : ((n : Int) == 32) = true := by rw [h32]; rfl
          clear ho hv HX HT HR HB h32
          go_wp2
          exact ret_whole2 rfl b2 rfl rfl HY.out Try.underlying30 rfl (by kernel_rfl) rfl HP.out
        · have hz1 : ((n : Int) == 32) = false := beq_eq_false_iff_ne.2 (by omega)
          have hgt : 32 < B.length := by rw [Hl.out]; omega
          obtain ⟨m, gm⟩ : ∃ z, n - 32 = z := ⟨_, rfl⟩
          obtain ⟨As, gAs⟩ : ∃ z, (if c = 32 then A else A.map (·.add (32 * 1))) = z := ⟨_, rfl⟩
          obtain ⟨cs, gcs⟩ : ∃ z, c - 32 = z := ⟨_, rfl⟩
          have hrs := rds_low8 HR.out (by omega) gm
          rw [gAs, gcs] at hrs
          have HRs := Lib.hid hrs
          have HL2 : RowKit.Hid ((B.drop 32).length = m) := Lib.hid (by rw [List.length_drop, Hl.out]; exact gm)
          have Hm9 : RowKit.Hid (m ≤ 90000) := Lib.hid (by omega)
          have Hok := Lib.hid (okS_long hgt)
          have HAs := Lib.hid gAs
          have Hgm := Lib.hid gm
          have Hgc := Lib.hid gcs
          have H32 : RowKit.Hid (32 ≤ n) := Lib.hid (by omega)
          clear hrs gAs gm gcs h32
          go_upto_region 12 with fail
          refine wp_region_lit ?_
          refine wl_read (v := ?_) (some 45) rfl (by rfl) ?_ ?_
          rotate_left
          · go_simp; (try with_reducible rfl)
          simp only [Act.put, stA_, st0_, st1_]
          refine wl_run (some 46) rfl (by rfl) (exec_slice_low_as 23 5 (.tmp 45) (.const (.int .i64 32)) rfl Try.underlying23 (s := 1) (by kernel_rfl) rfl rfl H32.out HAs.out Hgm.out Hgc.out) ?_
          simp only [Act.put, stA_, st0_, st1_]
          go_wp2_with fail
          refine (owhole_p As m cs (B.drop 32) _ HL2.out HRs.out Hm9.out (drop_lt Hb.out 32)).mono ?_
          rintro e w5 ⟨A5, c5, rfl, ho5, hb5⟩
          have HX5 := Lib.hid ((HX.out.bl hb5).al (.cells #[.slice A5 (whV (B.drop 32)).length c5] 28))
          have HT5 := Lib.hid ((HT.out.bl hb5).al (.cells #[.slice A5 (whV (B.drop 32)).length c5] 28))
          have HB5 := Lib.hid (bel_al (bel_bl HB.out hb5) (.cells #[.slice A5 (whV (B.drop 32)).length c5] 28))
          have HO5 := Lib.hid (own_up ho5 (below1 w5 (.cells #[.slice A5 (whV (B.drop 32)).length c5] 28)))
          have HE5 : RowKit.Hid (Whole (w5.alloc (.cells #[.slice A5 (whV (B.drop 32)).length c5] 28)) w5.heap.size 28 [.slice A5 (whV (B.drop 32)).length c5]) := Lib.hid (Whole.new_ _ _ [_])
          have Lw5 : RowKit.Hid (wz.heap.size ≤ w5.heap.size) := Lib.hid hb5.size
          have Lz : RowKit.Hid (b2 < wz.heap.size ∧ bt < wz.heap.size ∧ w.heap.size ≤ wz.heap.size) := Lib.hid ⟨HX.out.lt, HT.out.lt, HB.out.size⟩
          clear ho5 hb5 HX HT HB HR HRs
          have N2 : RowKit.Hid (some b2 ≠ (Value.slice A5 (whV (B.drop 32)).length c5).ownBlock) := Lib.hid (fun e => by have := (HO5.out.lt b2 e.symm).1; have := Lz.out; have := Lw5.out; omega)
          have Nt : RowKit.Hid (some bt ≠ (Value.slice A5 (whV (B.drop 32)).length c5).ownBlock) := Lib.hid (fun e => by have := (HO5.out.lt bt e.symm).1; have := Lz.out; have := Lw5.out; omega)
          obtain ⟨W5, gW5⟩ : ∃ z, w5.alloc (.cells #[.slice A5 (whV (B.drop 32)).length c5] 28) = z := ⟨_, rfl⟩
          obtain ⟨b5, gb5⟩ : ∃ z, w5.heap.size = z := ⟨_, rfl⟩
          cases hw : okW (B.drop 32) with
          | false =>
            have he : whE (B.drop 32) = 2 := whE_no hw
            have hok : okS B = false := by rw [Hok.out, hw]
            obtain ⟨l, gl⟩ : ∃ z, (whV (B.drop 32)).length = z := ⟨_, rfl⟩
            rw [gl] at HX5 HT5 HB5 HO5 HE5 gW5 ⊢
            rw [he]
            have HX := Lib.hid (gW5 ▸ HX5.out)
            have HBz := Lib.hid (gW5 ▸ HB5.out)
            have HY := Lib.hid (((((HX.out.set_ 0 (.int .i64 0)).set_ 1 (.int .i64 0)).set_ 2 (.int .i64 0)).set_ 3 (.int .i64 0)).set_ 4 (.slice none 0 0))
            have HP : RowKit.Hid (GivesS w (tkS B) (tkSE B) (.returned (.tuple #[.agg #[.int .i64 0, .int .i64 0, .int .i64 0, .int .i64 0, .slice none 0 0], .int .i64 240])) ((((((W5.setCell ⟨b2, 0, none⟩ (.int .i64 0)).setCell ⟨b2, 1, none⟩ (.int .i64 0)).setCell ⟨b2, 2, none⟩ (.int .i64 0)).setCell ⟨b2, 3, none⟩ (.int .i64 0)).setCell ⟨b2, 4, none⟩ (.slice none 0 0)))) := Lib.hid (gives_no hok (((((HBz.out.setCell (p := ⟨b2, 0, none⟩) Lb2.out (.int .i64 0)).setCell (p := ⟨b2, 1, none⟩) Lb2.out (.int .i64 0)).setCell (p := ⟨b2, 2, none⟩) Lb2.out (.int .i64 0)).setCell (p := ⟨b2, 3, none⟩) Lb2.out (.int .i64 0)).setCell (p := ⟨b2, 4, none⟩) Lb2.out (.slice none 0 0)))
            have f0 := HX.out.free 0
            have f1 := HX.out.free 1
            have f2 := HX.out.free 2
            have f3 := HX.out.free 3
            have f4 := HX.out.free 4
            have k0 := HX.out.cell (i := 0) rfl
            have k1 := HX.out.cell (i := 1) rfl
            have k2 := HX.out.cell (i := 2) rfl
            have k3 := HX.out.cell (i := 3) rfl
            have k4 := HX.out.cell (i := 4) rfl
            clear he hok hw gl HX5 HT5 HB5 HO5 HE5
            go_upto_region 13 with fail
            clear gW5 gb5
            go_wp2
            exact ret_whole2 rfl b2 rfl rfl HY.out Try.underlying30 rfl (by kernel_rfl) rfl HP.out
          | true =>
            have he : whE (B.drop 32) = 0 := by unfold whE; rw [hw]; rfl
            have hok : okS B = true := by rw [Hok.out, hw]
            have hv : tkS B = ((x1, x2, x3, x4), whV (B.drop 32)) ∧ tkSE B = 0 := by
              have := tk_yes hok
              rw [Hx.out] at this
              exact this
            rw [he]
            obtain ⟨V, gV⟩ : ∃ z, whV (B.drop 32) = z := ⟨_, rfl⟩
            rw [gV] at HX5 HT5 HB5 HO5 HE5 gW5 hv N2 Nt ⊢
            obtain ⟨l, gl⟩ : ∃ z, V.length = z := ⟨_, rfl⟩
            rw [gl] at HX5 HT5 HB5 HO5 HE5 gW5 N2 Nt ⊢
            rw [gW5] at HX5 HT5 HB5 HO5 HE5
            rw [gb5] at HE5
            have HT6 := Lib.hid (HT5.out.set_ 4 (.slice A5 l c5))
            have HX6 := Lib.hid (HX5.out.far (p := ⟨bt, 4, none⟩) (show b2 ≠ bt from N2t.out) (.slice A5 l c5))
            have HO6 := Lib.hid (own_cell_far HO5.out (i := 4) Nt.out (.slice A5 l c5))
            have HB6 := Lib.hid (HB5.out.setCell (p := ⟨bt, 4, none⟩) Lbt.out (.slice A5 l c5))
            have ft := HT5.out.free 4
            have kt := HT5.out.cell (i := 4) rfl
            have ke := HE5.out.cell (i := 0) rfl
            go_upto_region 15 with fail
            clear gW5 gb5
            go_upto_region 16 with fail
            clear ft kt ke
            obtain ⟨W6, gW6⟩ : ∃ z, W5.setCell ⟨bt, 4, none⟩ (.slice A5 l c5) = z := ⟨_, rfl⟩
            rw [gW6] at HT6 HX6 HO6 HB6 ⊢
            clear gW6
            have HY := Lib.hid (((((HX6.out.set_ 0 (.int .i64 x1)).set_ 1 (.int .i64 x2)).set_ 2 (.int .i64 x3)).set_ 3 (.int .i64 x4)).set_ 4 (.slice A5 l c5))
            have HP : RowKit.Hid (GivesS w (tkS B) (tkSE B) (.returned (.tuple #[.agg #[.int .i64 x1, .int .i64 x2, .int .i64 x3, .int .i64 x4, .slice A5 l c5], .int .i64 0])) ((((((W6.setCell ⟨b2, 0, none⟩ (.int .i64 x1)).setCell ⟨b2, 1, none⟩ (.int .i64 x2)).setCell ⟨b2, 2, none⟩ (.int .i64 x3)).setCell ⟨b2, 3, none⟩ (.int .i64 x4)).setCell ⟨b2, 4, none⟩ (.slice A5 l c5)))) := Lib.hid (by
              rw [hv.1, hv.2]
              exact ⟨A5, l, c5, rfl, gl.symm, own_lo8 (own_cell_far (own_cell_far (own_cell_far (own_cell_far (own_cell_far HO6.out (i := 0) N2.out (.int .i64 x1)) (i := 1) N2.out (.int .i64 x2)) (i := 2) N2.out (.int .i64 x3)) (i := 3) N2.out (.int .i64 x4)) (i := 4) N2.out (.slice A5 l c5)) (by have := Lz.out; have := Lw5.out; omega), (((((HB6.out.setCell (p := ⟨b2, 0, none⟩) Lb2.out (.int .i64 x1)).setCell (p := ⟨b2, 1, none⟩) Lb2.out (.int .i64 x2)).setCell (p := ⟨b2, 2, none⟩) Lb2.out (.int .i64 x3)).setCell (p := ⟨b2, 3, none⟩) Lb2.out (.int .i64 x4)).setCell (p := ⟨b2, 4, none⟩) Lb2.out (.slice A5 l c5))⟩)
            have f0 := HX6.out.free 0
            have f1 := HX6.out.free 1
            have f2 := HX6.out.free 2
            have f3 := HX6.out.free 3
            have f4 := HX6.out.free 4
            have k0 := HX6.out.cell (i := 0) rfl
            have k1 := HX6.out.cell (i := 1) rfl
            have k2 := HX6.out.cell (i := 2) rfl
            have k3 := HX6.out.cell (i := 3) rfl
            have k4 := HX6.out.cell (i := 4) rfl
            have t0 := HT6.out.cell (i := 0) rfl
            have t1 := HT6.out.cell (i := 1) rfl
            have t2 := HT6.out.cell (i := 2) rfl
            have t3 := HT6.out.cell (i := 3) rfl
            have t4 := HT6.out.cell (i := 4) rfl
            clear he hok hw gV gl hv HX5 HT5 HB5 HO5 HE5 HX6 HT6 HO6 HB6
            go_wp2
            exact ret_whole2 rfl b2 rfl rfl HY.out Try.underlying30 rfl (by kernel_rfl) rfl HP.out
set_option maxRecDepth 100000 in
set_option maxHeartbeats 4000000 in
theorem rtake23_any (A : Option Addr) (n c : Nat) (B : List Nat) (w : World) (hl : B.length = n) (h : RdS w w.heap.size 1 A n c (rowsV f8 B)) (hn : n ≤ 90000) (hb : ∀ b ∈ B, b < 256) :
    Calls Try.prog 11 #[.slice A n c] w (GivesS w (tkS B) (tkSE B)) := by
  have HR := Lib.hid (h.al (.cells #[.int .i64 0, .int .i64 0, .int .i64 0, .int .i64 0, .slice none 0 0] 30))
  have HX : RowKit.Hid (Whole (w.alloc (.cells #[.int .i64 0, .int .i64 0, .int .i64 0, .int .i64 0, .slice none 0 0] 30)) w.heap.size 30 [.int .i64 0, .int .i64 0, .int .i64 0, .int .i64 0, .slice none 0 0]) := Lib.hid (Whole.new_ _ _ [.int .i64 0, .int .i64 0, .int .i64 0, .int .i64 0, .slice none 0 0])
  have HB : RowKit.Hid (Below w.heap.size w (w.alloc (.cells #[.int .i64 0, .int .i64 0, .int .i64 0, .int .i64 0, .slice none 0 0] 30))) := Lib.hid (below1 _ _)
  have Hl := Lib.hid hl
  have Hb := Lib.hid hb
  clear h hl hb
  go_enter Try.func11, Try.ntmps11
  go_upto_region 1 with fail
  obtain ⟨W0, gW0⟩ : ∃ z, w.alloc (.cells #[.int .i64 0, .int .i64 0, .int .i64 0, .int .i64 0, .slice none 0 0] 30) = z := ⟨_, rfl⟩
  obtain ⟨b2, gb2⟩ : ∃ z, w.heap.size = z := ⟨_, rfl⟩
  have Lb2 : RowKit.Hid (w.heap.size ≤ b2) := Lib.hid (Nat.le_of_eq gb2)
  rw [gW0] at HR HX HB ⊢
  rw [gb2] at HX ⊢
  clear gW0 gb2
  have HX0 := HX
  have HR0 := HR
  have HB0 := HB
  clear HX HR HB
  by_cases hs : n < 32
  · have hok := okS_short (show B.length < 32 by rw [Hl.out]; exact hs)
    have hz0 : decide ((n : Int) < 32) = true := decide_eq_true (by omega)
    have HY := Lib.hid (((((HX0.out.set_ 0 (.int .i64 0)).set_ 1 (.int .i64 0)).set_ 2 (.int .i64 0)).set_ 3 (.int .i64 0)).set_ 4 (.slice none 0 0))
    have HP : RowKit.Hid (GivesS w (tkS B) (tkSE B) (.returned (.tuple #[.agg #[.int .i64 0, .int .i64 0, .int .i64 0, .int .i64 0, .slice none 0 0], .int .i64 240])) ((((((W0.setCell ⟨b2, 0, none⟩ (.int .i64 0)).setCell ⟨b2, 1, none⟩ (.int .i64 0)).setCell ⟨b2, 2, none⟩ (.int .i64 0)).setCell ⟨b2, 3, none⟩ (.int .i64 0)).setCell ⟨b2, 4, none⟩ (.slice none 0 0)))) := Lib.hid (gives_no hok (((((HB0.out.setCell (p := ⟨b2, 0, none⟩) Lb2.out (.int .i64 0)).setCell (p := ⟨b2, 1, none⟩) Lb2.out (.int .i64 0)).setCell (p := ⟨b2, 2, none⟩) Lb2.out (.int .i64 0)).setCell (p := ⟨b2, 3, none⟩) Lb2.out (.int .i64 0)).setCell (p := ⟨b2, 4, none⟩) Lb2.out (.slice none 0 0)))
    have f0 := HX0.out.free 0
    have f1 := HX0.out.free 1
    have f2 := HX0.out.free 2
    have f3 := HX0.out.free 3
    have f4 := HX0.out.free 4
    have k0 := HX0.out.cell (i := 0) rfl
    have k1 := HX0.out.cell (i := 1) rfl
    have k2 := HX0.out.cell (i := 2) rfl
    have k3 := HX0.out.cell (i := 3) rfl
    have k4 := HX0.out.cell (i := 4) rfl
    clear hok HX0 HR0 HB0
    go_wp2
    exact ret_whole2 rfl b2 rfl rfl HY.out Try.underlying30 rfl (by kernel_rfl) rfl HP.out
  · have hz0 : decide ((n : Int) < 32) = false := decide_eq_false (by omega)
    have h32 : 32 ≤ B.length := by rw [Hl.out]; omega
    obtain ⟨⟨x1, x2, x3, x4⟩, gx⟩ : ∃ z, h4V B = z := ⟨_, rfl⟩
    have Hx := Lib.hid gx
    clear gx
    go_upto_region 4 with fail
    have hR := HR0.out.al (.cells #[.int .i64 0, .int .i64 0, .int .i64 0, .int .i64 0, .slice none 0 0] 30)
    have hX := HX0.out.al (.cells #[.int .i64 0, .int .i64 0, .int .i64 0, .int .i64 0, .slice none 0 0] 30)
    have hB := bel_al HB0.out (.cells #[.int .i64 0, .int .i64 0, .int .i64 0, .int .i64 0, .slice none 0 0] 30)
    have hT : Whole (W0.alloc (.cells #[.int .i64 0, .int .i64 0, .int .i64 0, .int .i64 0, .slice none 0 0] 30)) W0.heap.size 30 [.int .i64 0, .int .i64 0, .int .i64 0, .int .i64 0, .slice none 0 0] := Whole.new_ W0 30 [.int .i64 0, .int .i64 0, .int .i64 0, .int .i64 0, .slice none 0 0]
    obtain ⟨W1, gW1⟩ : ∃ z, W0.alloc (.cells #[.int .i64 0, .int .i64 0, .int .i64 0, .int .i64 0, .slice none 0 0] 30) = z := ⟨_, rfl⟩
    have hlt4 : b2 < W0.heap.size := HX0.out.lt
    have hlw : w.heap.size ≤ W0.heap.size := HB0.out.size
    obtain ⟨bt, gbt⟩ : ∃ z, W0.heap.size = z := ⟨_, rfl⟩
    rw [gW1] at hR hX hB hT ⊢
    rw [gbt] at hT hlt4 hlw ⊢
    have HR := Lib.hid hR
    have HX := Lib.hid hX
    have HB := Lib.hid hB
    have HT := Lib.hid hT
    have N2t : RowKit.Hid (b2 ≠ bt) := Lib.hid (by omega)
    have Lbt : RowKit.Hid (w.heap.size ≤ bt) := Lib.hid hlw
    have HAf : RowKit.Hid (∀ a, A = some a → 0 < n → a.block ≠ bt) := Lib.hid (fun a ha h0 => by have := HR0.out.low a ha h0; omega)
    clear hR hX hB hT gW1 gbt hlt4 hlw HX0 HR0 HB0
    have ft := HT.out.free 0
    have kt := HT.out.cell (i := 0) rfl
    go_wp2_with fail
    refine (rtakenum_p A n c B _ (by omega) HR.out (by omega) Hb.out x1 (congrArg (fun z => z.1) Hx.out)).mono ?_
    rintro e w70 ⟨A70, n70, c70, rfl, hb70⟩
    have HTa := Lib.hid (HT.out.bl hb70)
    have HTb := Lib.hid (HTa.out.set_ 0 (.int .i64 x1))
    have HXb := Lib.hid ((HX.out.bl hb70).far (p := ⟨bt, 0, none⟩) (show b2 ≠ bt from N2t.out) (.int .i64 x1))
    have HRb : RowKit.Hid (RdS (w70.setCell ⟨bt, 0, none⟩ (.int .i64 x1)) (w70.setCell ⟨bt, 0, none⟩ (.int .i64 x1)).heap.size 1 A n c (rowsV f8 B)) := Lib.hid ((HR.out.bl hb70).far (p := ⟨bt, 0, none⟩) (fun h0 a ha => HAf.out a ha h0) (.int .i64 x1))
    have HBb := Lib.hid ((bel_bl HB.out hb70).setCell (p := ⟨bt, 0, none⟩) Lbt.out (.int .i64 x1))
    clear ft kt
    have ft := HTa.out.free 0
    have kt := HTa.out.cell (i := 0) rfl
    clear hb70 HT HX HR HB
    go_upto_region 5 with fail
    clear ft kt HTa
    obtain ⟨wz70, gwz⟩ : ∃ z, w70.setCell ⟨bt, 0, none⟩ (.int .i64 x1) = z := ⟨_, rfl⟩
    rw [gwz] at HTb HXb HRb HBb ⊢
    clear gwz
    have HT : RowKit.Hid (Whole wz70 bt 30 [.int .i64 x1, .int .i64 0, .int .i64 0, .int .i64 0, .slice none 0 0]) := Lib.hid HTb.out
    have HX := HXb
    have HR := HRb
    have HB := HBb
    clear HTb HXb HRb HBb
    have ft := HT.out.free 1
    have kt := HT.out.cell (i := 1) rfl
    obtain ⟨As, gAs⟩ : ∃ z, (if c = 8 then A else A.map (·.add (8 * 1))) = z := ⟨_, rfl⟩
    obtain ⟨cs, gcs⟩ : ∃ z, c - 8 = z := ⟨_, rfl⟩
    obtain ⟨m, gm⟩ : ∃ z, n - 8 = z := ⟨_, rfl⟩
    have hrs := rds_low8 HR.out (i := 8) (by omega) gm
    rw [gAs, gcs] at hrs
    have HRs := Lib.hid hrs
    have HAs := Lib.hid gAs
    have Hgm := Lib.hid gm
    have Hgc := Lib.hid gcs
    have Hk : RowKit.Hid (8 ≤ n ∧ m ≤ 100000 ∧ 8 ≤ (B.drop 8).length) := Lib.hid ⟨by omega, by omega, by rw [List.length_drop, Hl.out]; omega⟩
    clear hrs gAs gcs gm ft kt
    go_upto_region 5 with fail
    refine wp_region_lit ?_
    refine wl_read (v := ?_) (some 20) rfl (by rfl) ?_ ?_
    rotate_left
    · go_simp; (try with_reducible rfl)
    simp only [Act.put, stA_, st0_, st1_]
    refine wl_run (some 21) rfl (by rfl) (exec_slice_low_as 23 5 (.tmp 20) (.const (.int .i64 8)) rfl Try.underlying23 (s := 1) (by kernel_rfl) rfl rfl Hk.out.1 HAs.out Hgm.out Hgc.out) ?_
    simp only [Act.put, stA_, st0_, st1_]
    go_wp2_with fail
    refine (rtakenum_p As m cs (B.drop 8) _ Hk.out.2.2 HRs.out Hk.out.2.1 (drop_lt Hb.out 8) x2 (congrArg (fun z => z.2.1) Hx.out)).mono ?_
    rintro e w71 ⟨A71, n71, c71, rfl, hb71⟩
    have HTa := Lib.hid (HT.out.bl hb71)
    have HTb := Lib.hid (HTa.out.set_ 1 (.int .i64 x2))
    have HXb := Lib.hid ((HX.out.bl hb71).far (p := ⟨bt, 1, none⟩) (show b2 ≠ bt from N2t.out) (.int .i64 x2))
    have HRb : RowKit.Hid (RdS (w71.setCell ⟨bt, 1, none⟩ (.int .i64 x2)) (w71.setCell ⟨bt, 1, none⟩ (.int .i64 x2)).heap.size 1 A n c (rowsV f8 B)) := Lib.hid ((HR.out.bl hb71).far (p := ⟨bt, 1, none⟩) (fun h0 a ha => HAf.out a ha h0) (.int .i64 x2))
    have HBb := Lib.hid ((bel_bl HB.out hb71).setCell (p := ⟨bt, 1, none⟩) Lbt.out (.int .i64 x2))
    have ft := HTa.out.free 1
    have kt := HTa.out.cell (i := 1) rfl
    clear hb71 HT HX HR HB HRs HAs Hgm Hgc Hk
    go_upto_region 6 with fail
    clear ft kt HTa
    obtain ⟨wz71, gwz⟩ : ∃ z, w71.setCell ⟨bt, 1, none⟩ (.int .i64 x2) = z := ⟨_, rfl⟩
    rw [gwz] at HTb HXb HRb HBb ⊢
    clear gwz
    have HT : RowKit.Hid (Whole wz71 bt 30 [.int .i64 x1, .int .i64 x2, .int .i64 0, .int .i64 0, .slice none 0 0]) := Lib.hid HTb.out
    have HX := HXb
    have HR := HRb
    have HB := HBb
    clear HTb HXb HRb HBb
    have ft := HT.out.free 2
    have kt := HT.out.cell (i := 2) rfl
    obtain ⟨As, gAs⟩ : ∃ z, (if c = 16 then A else A.map (·.add (16 * 1))) = z := ⟨_, rfl⟩
    obtain ⟨cs, gcs⟩ : ∃ z, c - 16 = z := ⟨_, rfl⟩
    obtain ⟨m, gm⟩ : ∃ z, n - 16 = z := ⟨_, rfl⟩
    have hrs := rds_low8 HR.out (i := 16) (by omega) gm
    rw [gAs, gcs] at hrs
    have HRs := Lib.hid hrs
    have HAs := Lib.hid gAs
    have Hgm := Lib.hid gm
    have Hgc := Lib.hid gcs
    have Hk : RowKit.Hid (16 ≤ n ∧ m ≤ 100000 ∧ 8 ≤ (B.drop 16).length) := Lib.hid ⟨by omega, by omega, by rw [List.length_drop, Hl.out]; omega⟩
    clear hrs gAs gcs gm ft kt
    go_upto_region 6 with fail
    refine wp_region_lit ?_
    refine wl_read (v := ?_) (some 28) rfl (by rfl) ?_ ?_
    rotate_left
    · go_simp; (try with_reducible rfl)
    simp only [Act.put, stA_, st0_, st1_]
    refine wl_run (some 29) rfl (by rfl) (exec_slice_low_as 23 5 (.tmp 28) (.const (.int .i64 16)) rfl Try.underlying23 (s := 1) (by kernel_rfl) rfl rfl Hk.out.1 HAs.out Hgm.out Hgc.out) ?_
    simp only [Act.put, stA_, st0_, st1_]
    go_wp2_with fail
    refine (rtakenum_p As m cs (B.drop 16) _ Hk.out.2.2 HRs.out Hk.out.2.1 (drop_lt Hb.out 16) x3 (congrArg (fun z => z.2.2.1) Hx.out)).mono ?_
    rintro e w72 ⟨A72, n72, c72, rfl, hb72⟩
    have HTa := Lib.hid (HT.out.bl hb72)
    have HTb := Lib.hid (HTa.out.set_ 2 (.int .i64 x3))
    have HXb := Lib.hid ((HX.out.bl hb72).far (p := ⟨bt, 2, none⟩) (show b2 ≠ bt from N2t.out) (.int .i64 x3))
    have HRb : RowKit.Hid (RdS (w72.setCell ⟨bt, 2, none⟩ (.int .i64 x3)) (w72.setCell ⟨bt, 2, none⟩ (.int .i64 x3)).heap.size 1 A n c (rowsV f8 B)) := Lib.hid ((HR.out.bl hb72).far (p := ⟨bt, 2, none⟩) (fun h0 a ha => HAf.out a ha h0) (.int .i64 x3))
    have HBb := Lib.hid ((bel_bl HB.out hb72).setCell (p := ⟨bt, 2, none⟩) Lbt.out (.int .i64 x3))
    have ft := HTa.out.free 2
    have kt := HTa.out.cell (i := 2) rfl
    clear hb72 HT HX HR HB HRs HAs Hgm Hgc Hk
    go_upto_region 7 with fail
    clear ft kt HTa
    obtain ⟨wz72, gwz⟩ : ∃ z, w72.setCell ⟨bt, 2, none⟩ (.int .i64 x3) = z := ⟨_, rfl⟩
    rw [gwz] at HTb HXb HRb HBb ⊢
    clear gwz
    have HT : RowKit.Hid (Whole wz72 bt 30 [.int .i64 x1, .int .i64 x2, .int .i64 x3, .int .i64 0, .slice none 0 0]) := Lib.hid HTb.out
    have HX := HXb
    have HR := HRb
    have HB := HBb
    clear HTb HXb HRb HBb
    have ft := HT.out.free 3
    have kt := HT.out.cell (i := 3) rfl
    obtain ⟨As, gAs⟩ : ∃ z, (if c = 24 then A else A.map (·.add (24 * 1))) = z := ⟨_, rfl⟩
    obtain ⟨cs, gcs⟩ : ∃ z, c - 24 = z := ⟨_, rfl⟩
    obtain ⟨m, gm⟩ : ∃ z, n - 24 = z := ⟨_, rfl⟩
    have hrs := rds_low8 HR.out (i := 24) (by omega) gm
    rw [gAs, gcs] at hrs
    have HRs := Lib.hid hrs
    have HAs := Lib.hid gAs
    have Hgm := Lib.hid gm
    have Hgc := Lib.hid gcs
    have Hk : RowKit.Hid (24 ≤ n ∧ m ≤ 100000 ∧ 8 ≤ (B.drop 24).length) := Lib.hid ⟨by omega, by omega, by rw [List.length_drop, Hl.out]; omega⟩
    clear hrs gAs gcs gm ft kt
    go_upto_region 7 with fail
    refine wp_region_lit ?_
    refine wl_read (v := ?_) (some 36) rfl (by rfl) ?_ ?_
    rotate_left
    · go_simp; (try with_reducible rfl)
    simp only [Act.put, stA_, st0_, st1_]
    refine wl_run (some 37) rfl (by rfl) (exec_slice_low_as 23 5 (.tmp 36) (.const (.int .i64 24)) rfl Try.underlying23 (s := 1) (by kernel_rfl) rfl rfl Hk.out.1 HAs.out Hgm.out Hgc.out) ?_
    simp only [Act.put, stA_, st0_, st1_]
    go_wp2_with fail
    refine (rtakenum_p As m cs (B.drop 24) _ Hk.out.2.2 HRs.out Hk.out.2.1 (drop_lt Hb.out 24) x4 (congrArg (fun z => z.2.2.2) Hx.out)).mono ?_
    rintro e w73 ⟨A73, n73, c73, rfl, hb73⟩
    have HTa := Lib.hid (HT.out.bl hb73)
    have HTb := Lib.hid (HTa.out.set_ 3 (.int .i64 x4))
    have HXb := Lib.hid ((HX.out.bl hb73).far (p := ⟨bt, 3, none⟩) (show b2 ≠ bt from N2t.out) (.int .i64 x4))
    have HRb : RowKit.Hid (RdS (w73.setCell ⟨bt, 3, none⟩ (.int .i64 x4)) (w73.setCell ⟨bt, 3, none⟩ (.int .i64 x4)).heap.size 1 A n c (rowsV f8 B)) := Lib.hid ((HR.out.bl hb73).far (p := ⟨bt, 3, none⟩) (fun h0 a ha => HAf.out a ha h0) (.int .i64 x4))
    have HBb := Lib.hid ((bel_bl HB.out hb73).setCell (p := ⟨bt, 3, none⟩) Lbt.out (.int .i64 x4))
    have ft := HTa.out.free 3
    have kt := HTa.out.cell (i := 3) rfl
    clear hb73 HT HX HR HB HRs HAs Hgm Hgc Hk
    go_upto_region 8 with fail
    clear ft kt HTa
    obtain ⟨wz73, gwz⟩ : ∃ z, w73.setCell ⟨bt, 3, none⟩ (.int .i64 x4) = z := ⟨_, rfl⟩
    rw [gwz] at HTb HXb HRb HBb ⊢
    clear gwz
    have HT : RowKit.Hid (Whole wz73 bt 30 [.int .i64 x1, .int .i64 x2, .int .i64 x3, .int .i64 x4, .slice none 0 0]) := Lib.hid HTb.out
    have HX := HXb
    have HR := HRb
    have HB := HBb
    clear HTb HXb HRb HBb
    obtain ⟨wz, gwz⟩ : ∃ z, wz73 = z := ⟨_, rfl⟩
    rw [gwz] at HT HX HR HB ⊢
    clear gwz h32 HAf
    by_cases h32 : n = 32
    · have ho := okS_head (Hl.out.trans h32)
      have hv : tkS B = ((x1, x2, x3, x4), []) ∧ tkSE B = 0 := by
        have := tk_yes ho.1
        rw [ho.2, Hx.out] at this
        exact this
      have HY := Lib.hid (((((HX.out.set_ 0 (.int .i64 x1)).set_ 1 (.int .i64 x2)).set_ 2 (.int .i64 x3)).set_ 3 (.int .i64 x4)).set_ 4 (.slice none 0 0))
      have HP : RowKit.Hid (GivesS w (tkS B) (tkSE B) (.returned (.tuple #[.agg #[.int .i64 x1, .int .i64 x2, .int .i64 x3, .int .i64 x4, .slice none 0 0], .int .i64 0])) ((((((wz.setCell ⟨b2, 0, none⟩ (.int .i64 x1)).setCell ⟨b2, 1, none⟩ (.int .i64 x2)).setCell ⟨b2, 2, none⟩ (.int .i64 x3)).setCell ⟨b2, 3, none⟩ (.int .i64 x4)).setCell ⟨b2, 4, none⟩ (.slice none 0 0)))) := Lib.hid (by
        rw [hv.1, hv.2]
        exact ⟨none, 0, 0, rfl, rfl, World.ownsRow_nil _ _ _ _, (((((HB.out.setCell (p := ⟨b2, 0, none⟩) Lb2.out (.int .i64 x1)).setCell (p := ⟨b2, 1, none⟩) Lb2.out (.int .i64 x2)).setCell (p := ⟨b2, 2, none⟩) Lb2.out (.int .i64 x3)).setCell (p := ⟨b2, 3, none⟩) Lb2.out (.int .i64 x4)).setCell (p := ⟨b2, 4, none⟩) Lb2.out (.slice none 0 0))⟩)
      have f0 := HX.out.free 0
      have f1 := HX.out.free 1
      have f2 := HX.out.free 2
      have f3 := HX.out.free 3
      have f4 := HX.out.free 4
      have k0 := HX.out.cell (i := 0) rfl
      have k1 := HX.out.cell (i := 1) rfl
      have k2 := HX.out.cell (i := 2) rfl
      have k3 := HX.out.cell (i := 3) rfl
      have k4 := HX.out.cell (i := 4) rfl
      have t0 := HT.out.cell (i := 0) rfl
      have t1 := HT.out.cell (i := 1) rfl
      have t2 := HT.out.cell (i := 2) rfl
      have t3 := HT.out.cell (i := 3) rfl
      have t4 := HT.out.cell (i := 4) rfl
      have hz1 : ((n : Int) == 32) = true := by rw [h32]; rfl
      clear ho hv HX HT HR HB h32
      go_wp2
      exact ret_whole2 rfl b2 rfl rfl HY.out Try.underlying30 rfl (by kernel_rfl) rfl HP.out
    · have hz1 : ((n : Int) == 32) = false := beq_eq_false_iff_ne.2 (by omega)
      have hgt : 32 < B.length := by rw [Hl.out]; omega
      obtain ⟨m, gm⟩ : ∃ z, n - 32 = z := ⟨_, rfl⟩
      obtain ⟨As, gAs⟩ : ∃ z, (if c = 32 then A else A.map (·.add (32 * 1))) = z := ⟨_, rfl⟩
      obtain ⟨cs, gcs⟩ : ∃ z, c - 32 = z := ⟨_, rfl⟩
      have hrs := rds_low8 HR.out (by omega) gm
      rw [gAs, gcs] at hrs
      have HRs := Lib.hid hrs
      have HL2 : RowKit.Hid ((B.drop 32).length = m) := Lib.hid (by rw [List.length_drop, Hl.out]; exact gm)
      have Hm9 : RowKit.Hid (m ≤ 90000) := Lib.hid (by omega)
      have Hok := Lib.hid (okS_long hgt)
      have HAs := Lib.hid gAs
      have Hgm := Lib.hid gm
      have Hgc := Lib.hid gcs
      have H32 : RowKit.Hid (32 ≤ n) := Lib.hid (by omega)
      clear hrs gAs gm gcs h32
      go_upto_region 10 with fail
      refine wp_region_lit ?_
      refine wl_read (v := ?_) (some 48) rfl (by rfl) ?_ ?_
      rotate_left
      · go_simp; (try with_reducible rfl)
      simp only [Act.put, stA_, st0_, st1_]
      refine wl_run (some 49) rfl (by rfl) (exec_slice_low_as 23 5 (.tmp 48) (.const (.int .i64 32)) rfl Try.underlying23 (s := 1) (by kernel_rfl) rfl rfl H32.out HAs.out Hgm.out Hgc.out) ?_
      simp only [Act.put, stA_, st0_, st1_]
      go_wp2_with fail
      refine (rwhole10_any As m cs (B.drop 32) _ HL2.out HRs.out Hm9.out (drop_lt Hb.out 32)).mono ?_
      rintro e w5 ⟨A5, c5, rfl, ho5, hb5⟩
      have HX5 := Lib.hid ((HX.out.bl hb5).al (.cells #[.slice A5 (whV (B.drop 32)).length c5] 28))
      have HT5 := Lib.hid ((HT.out.bl hb5).al (.cells #[.slice A5 (whV (B.drop 32)).length c5] 28))
      have HB5 := Lib.hid (bel_al (bel_bl HB.out hb5) (.cells #[.slice A5 (whV (B.drop 32)).length c5] 28))
      have HO5 := Lib.hid (own_up ho5 (below1 w5 (.cells #[.slice A5 (whV (B.drop 32)).length c5] 28)))
      have HE5 : RowKit.Hid (Whole (w5.alloc (.cells #[.slice A5 (whV (B.drop 32)).length c5] 28)) w5.heap.size 28 [.slice A5 (whV (B.drop 32)).length c5]) := Lib.hid (Whole.new_ _ _ [_])
      have Lw5 : RowKit.Hid (wz.heap.size ≤ w5.heap.size) := Lib.hid hb5.size
      have Lz : RowKit.Hid (b2 < wz.heap.size ∧ bt < wz.heap.size ∧ w.heap.size ≤ wz.heap.size) := Lib.hid ⟨HX.out.lt, HT.out.lt, HB.out.size⟩
      clear ho5 hb5 HX HT HB HR HRs
      have N2 : RowKit.Hid (some b2 ≠ (Value.slice A5 (whV (B.drop 32)).length c5).ownBlock) := Lib.hid (fun e => by have := (HO5.out.lt b2 e.symm).1; have := Lz.out; have := Lw5.out; omega)
      have Nt : RowKit.Hid (some bt ≠ (Value.slice A5 (whV (B.drop 32)).length c5).ownBlock) := Lib.hid (fun e => by have := (HO5.out.lt bt e.symm).1; have := Lz.out; have := Lw5.out; omega)
      obtain ⟨W5, gW5⟩ : ∃ z, w5.alloc (.cells #[.slice A5 (whV (B.drop 32)).length c5] 28) = z := ⟨_, rfl⟩
      obtain ⟨b5, gb5⟩ : ∃ z, w5.heap.size = z := ⟨_, rfl⟩
      cases hw : okW (B.drop 32) with
      | false =>
        have he : whE (B.drop 32) = 2 := whE_no hw
        have hok : okS B = false := by rw [Hok.out, hw]
        obtain ⟨l, gl⟩ : ∃ z, (whV (B.drop 32)).length = z := ⟨_, rfl⟩
        rw [gl] at HX5 HT5 HB5 HO5 HE5 gW5 ⊢
        rw [he]
        have HX := Lib.hid (gW5 ▸ HX5.out)
        have HBz := Lib.hid (gW5 ▸ HB5.out)
        have HY := Lib.hid (((((HX.out.set_ 0 (.int .i64 0)).set_ 1 (.int .i64 0)).set_ 2 (.int .i64 0)).set_ 3 (.int .i64 0)).set_ 4 (.slice none 0 0))
        have HP : RowKit.Hid (GivesS w (tkS B) (tkSE B) (.returned (.tuple #[.agg #[.int .i64 0, .int .i64 0, .int .i64 0, .int .i64 0, .slice none 0 0], .int .i64 240])) ((((((W5.setCell ⟨b2, 0, none⟩ (.int .i64 0)).setCell ⟨b2, 1, none⟩ (.int .i64 0)).setCell ⟨b2, 2, none⟩ (.int .i64 0)).setCell ⟨b2, 3, none⟩ (.int .i64 0)).setCell ⟨b2, 4, none⟩ (.slice none 0 0)))) := Lib.hid (gives_no hok (((((HBz.out.setCell (p := ⟨b2, 0, none⟩) Lb2.out (.int .i64 0)).setCell (p := ⟨b2, 1, none⟩) Lb2.out (.int .i64 0)).setCell (p := ⟨b2, 2, none⟩) Lb2.out (.int .i64 0)).setCell (p := ⟨b2, 3, none⟩) Lb2.out (.int .i64 0)).setCell (p := ⟨b2, 4, none⟩) Lb2.out (.slice none 0 0)))
        have f0 := HX.out.free 0
        have f1 := HX.out.free 1
        have f2 := HX.out.free 2
        have f3 := HX.out.free 3
        have f4 := HX.out.free 4
        have k0 := HX.out.cell (i := 0) rfl
        have k1 := HX.out.cell (i := 1) rfl
        have k2 := HX.out.cell (i := 2) rfl
        have k3 := HX.out.cell (i := 3) rfl
        have k4 := HX.out.cell (i := 4) rfl
        clear he hok hw gl HX5 HT5 HB5 HO5 HE5
        go_upto_region 11 with fail
        clear gW5 gb5
        go_wp2
        exact ret_whole2 rfl b2 rfl rfl HY.out Try.underlying30 rfl (by kernel_rfl) rfl HP.out
      | true =>
        have he : whE (B.drop 32) = 0 := by unfold whE; rw [hw]; rfl
        have hok : okS B = true := by rw [Hok.out, hw]
        have hv : tkS B = ((x1, x2, x3, x4), whV (B.drop 32)) ∧ tkSE B = 0 := by
          have := tk_yes hok
          rw [Hx.out] at this
          exact this
        rw [he]
        obtain ⟨V, gV⟩ : ∃ z, whV (B.drop 32) = z := ⟨_, rfl⟩
        rw [gV] at HX5 HT5 HB5 HO5 HE5 gW5 hv N2 Nt ⊢
        obtain ⟨l, gl⟩ : ∃ z, V.length = z := ⟨_, rfl⟩
        rw [gl] at HX5 HT5 HB5 HO5 HE5 gW5 N2 Nt ⊢
        rw [gW5] at HX5 HT5 HB5 HO5 HE5
        rw [gb5] at HE5
        have HT6 := Lib.hid (HT5.out.set_ 4 (.slice A5 l c5))
        have HX6 := Lib.hid (HX5.out.far (p := ⟨bt, 4, none⟩) (show b2 ≠ bt from N2t.out) (.slice A5 l c5))
        have HO6 := Lib.hid (own_cell_far HO5.out (i := 4) Nt.out (.slice A5 l c5))
        have HB6 := Lib.hid (HB5.out.setCell (p := ⟨bt, 4, none⟩) Lbt.out (.slice A5 l c5))
        have ft := HT5.out.free 4
        have kt := HT5.out.cell (i := 4) rfl
        have ke := HE5.out.cell (i := 0) rfl
        go_upto_region 13 with fail
        clear gW5 gb5
        go_upto_region 14 with fail
        clear ft kt ke
        obtain ⟨W6, gW6⟩ : ∃ z, W5.setCell ⟨bt, 4, none⟩ (.slice A5 l c5) = z := ⟨_, rfl⟩
        rw [gW6] at HT6 HX6 HO6 HB6 ⊢
        clear gW6
        have HY := Lib.hid (((((HX6.out.set_ 0 (.int .i64 x1)).set_ 1 (.int .i64 x2)).set_ 2 (.int .i64 x3)).set_ 3 (.int .i64 x4)).set_ 4 (.slice A5 l c5))
        have HP : RowKit.Hid (GivesS w (tkS B) (tkSE B) (.returned (.tuple #[.agg #[.int .i64 x1, .int .i64 x2, .int .i64 x3, .int .i64 x4, .slice A5 l c5], .int .i64 0])) ((((((W6.setCell ⟨b2, 0, none⟩ (.int .i64 x1)).setCell ⟨b2, 1, none⟩ (.int .i64 x2)).setCell ⟨b2, 2, none⟩ (.int .i64 x3)).setCell ⟨b2, 3, none⟩ (.int .i64 x4)).setCell ⟨b2, 4, none⟩ (.slice A5 l c5)))) := Lib.hid (by
          rw [hv.1, hv.2]
          exact ⟨A5, l, c5, rfl, gl.symm, own_lo8 (own_cell_far (own_cell_far (own_cell_far (own_cell_far (own_cell_far HO6.out (i := 0) N2.out (.int .i64 x1)) (i := 1) N2.out (.int .i64 x2)) (i := 2) N2.out (.int .i64 x3)) (i := 3) N2.out (.int .i64 x4)) (i := 4) N2.out (.slice A5 l c5)) (by have := Lz.out; have := Lw5.out; omega), (((((HB6.out.setCell (p := ⟨b2, 0, none⟩) Lb2.out (.int .i64 x1)).setCell (p := ⟨b2, 1, none⟩) Lb2.out (.int .i64 x2)).setCell (p := ⟨b2, 2, none⟩) Lb2.out (.int .i64 x3)).setCell (p := ⟨b2, 3, none⟩) Lb2.out (.int .i64 x4)).setCell (p := ⟨b2, 4, none⟩) Lb2.out (.slice A5 l c5))⟩)
        have f0 := HX6.out.free 0
        have f1 := HX6.out.free 1
        have f2 := HX6.out.free 2
        have f3 := HX6.out.free 3
        have f4 := HX6.out.free 4
        have k0 := HX6.out.cell (i := 0) rfl
        have k1 := HX6.out.cell (i := 1) rfl
        have k2 := HX6.out.cell (i := 2) rfl
        have k3 := HX6.out.cell (i := 3) rfl
        have k4 := HX6.out.cell (i := 4) rfl
        have t0 := HT6.out.cell (i := 0) rfl
        have t1 := HT6.out.cell (i := 1) rfl
        have t2 := HT6.out.cell (i := 2) rfl
        have t3 := HT6.out.cell (i := 3) rfl
        have t4 := HT6.out.cell (i := 4) rfl
        clear he hok hw gV gl hv HX5 HT5 HB5 HO5 HE5 HX6 HT6 HO6 HB6
        go_wp2
        exact ret_whole2 rfl b2 rfl rfl HY.out Try.underlying30 rfl (by kernel_rfl) rfl HP.out
end Go.Proofs.Ytinfbaflkjghhaa
