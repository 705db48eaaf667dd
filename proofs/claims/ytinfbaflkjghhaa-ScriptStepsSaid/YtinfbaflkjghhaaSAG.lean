/- Several texts in one. -/
import Derived.Test.YtinfbaflkjghhaaSAA
import Derived.Test.YtinfbaflkjghhaaSAF
import Derived.Laws.ResultCell
import Derived.Test.YtinfbaflkjghhaaSAE
import Derived.Test.YtinfbaflkjghhaaSAB
import Derived.Test.YtinfbaflkjghhaaSAC
/- The reader: edit. -/
set_option linter.unusedSimpArgs false
set_option linter.unusedVariables false
namespace Go.Proofs.Ytinfbaflkjghhaa
open Go.RowKit
theorem edV_snoc : ∀ (k : Nat) (L : List Nat), edV (k + 1) L = edV k L ++ [opV (edL k L)]
  | 0, _ => rfl
  | k + 1, L => by
    show opV L :: edV (k + 1) (opL L) = (opV L :: edV k (opL L)) ++ [opV (edL (k + 1) L)]
    rw [edV_snoc k]
    rfl
theorem edL_snoc : ∀ (k : Nat) (L : List Nat), edL (k + 1) L = opL (edL k L)
  | 0, _ => rfl
  | k + 1, L => by
    show edL (k + 1) (opL L) = opL (edL k (opL L))
    rw [edL_snoc k]
theorem edL_lt : ∀ (k : Nat) {L : List Nat}, (∀ b ∈ L, b < 256) → ∀ b ∈ edL k L, b < 256
  | 0, _, h => h
  | k + 1, _, h => edL_lt k (opL_lt h)
theorem info_op : (Try.prog.info? 53).map (fun i => (i.zero, i.size, i.bytes)) = some (some (.agg #[.int .i64 0, .int .i64 0, .int .i64 0, .int .i64 0, .int .i64 0, .int .i64 0, .int .i64 0, .int .i64 0, .int .i64 0, .int .i64 0, .int .i64 0, .int .i64 0, .int .i64 0, .int .i64 0, .int .i64 0, .int .i64 0, .int .i64 0, .bool false, .string ⟨#[]⟩, .int .i64 0]), 20, 168) := by kernel_rfl
theorem rowsOp1 (o : OpT) : rowsV opCells [o] = opCells o := by simp [rowsV]
/-- A row of one's own, with nothing said of what else there is. -/
theorem ow_of {W : World} {B size n : Nat} {e : TypeId} {v : Value} {xs : List Value} (h : W.ownsRow B e size v n xs) (hB : B ≤ W.heap.size) : Ow { W with heap := #[] } B e size v n xs W :=
  ⟨h, ⟨rfl, rfl, rfl, Nat.zero_le _, fun i hi => absurd hi (Nat.not_lt_zero _)⟩, Nat.zero_le _, hB⟩
theorem own_at1 {W W' : World} {lo k n g : Nat} {T : TypeId} {v : Value} {xs : List Value} (h : W.ownsRow lo T k v n xs) (hk : Kept (At1 g) W W') (hne : some g ≠ v.ownBlock) : W'.ownsRow lo T k v n xs :=
  h.kept (row := some g) ⟨hk.os, hk.tape, hk.output, hk.size, fun i hi hn => hk.block i hi (fun e => hn (by rw [e]))⟩ (by first | exact hne | exact hne.symm | exact .inr hne | exact .inr hne.symm)
/-- How a round of edit stands. -/
structure EdS (lo g b2 b3 B0 : Nat) (L0 : List Nat) (w : World) (k : Nat) (A : Option Addr) (c : Nat) (W : World) : Prop where
  cu : CuAt lo W g (edL k L0)
  hy : Whole W b3 28 [.slice A k c]
  hx : Whole W b2 28 [.slice none 0 0]
  own : W.ownsRow B0 53 20 (.slice A k c) k (rowsV opCells (edV k L0))
  kp : Kept (At1 g) w W
theorem EdS.bl {lo g b2 b3 B0 k c : Nat} {L0 : List Nat} {w W W' : World} {A : Option Addr} (h : EdS lo g b2 b3 B0 L0 w k A c W) (hb : Below W.heap.size W W') : EdS lo g b2 b3 B0 L0 w k A c W' :=
  ⟨h.cu.bl hb, h.hy.bl hb, h.hx.bl hb, own_up h.own hb, h.kp.trans (Kept.of_below hb)⟩
set_option maxRecDepth 100000 in
set_option maxHeartbeats 4000000 in
theorem redit_any (lo g : Nat) (B : List Nat) (w : World) (h : CuAt lo w g B) (hb : ∀ b ∈ B, b < 256) :
    Calls Try.prog 58 #[.pointer (some ⟨g, 0, none⟩)] w fun e w' => ∃ A c, e = .returned (.agg #[.slice A (c1 B) c]) ∧ w'.ownsRow w.heap.size 53 20 (.slice A (c1 B) c) (c1 B) (rowsV opCells (rdV B)) ∧ Cu1 lo w w' g (rdR B) := by
  obtain ⟨i0, hi, hz0, hz1, hz2⟩ := info_parts_ info_op
  have HN1 := Lib.hid (fun W hc => cnumber_any lo g B W hc hb)
  have HR := Lib.hid (fun k W (hc : CuAt lo W g (edL k (B.drop 1))) => rop_any lo g (edL k (B.drop 1)) W hc (edL_lt k (drop_lt hb 1)))
  have HVn : RowKit.Hid (rdV B = edV (c1 B) (B.drop 1) ∧ rdR B = edL (c1 B) (B.drop 1)) := Lib.hid ⟨rfl, rfl⟩
  have hlt := byte_lt hb
  have HX0 : RowKit.Hid (Whole ((w.alloc (.cells #[.slice none 0 0] 28)).alloc (.cells #[.slice none 0 0] 28)) w.heap.size 28 [.slice none 0 0]) := Lib.hid ((Whole.new_ w 28 [_]).al _)
  have HY0 : RowKit.Hid (Whole ((w.alloc (.cells #[.slice none 0 0] 28)).alloc (.cells #[.slice none 0 0] 28)) (w.heap.size + 1) 28 [.slice none 0 0]) := Lib.hid (Whole.new2 (by simp))
  have HC0 := Lib.hid ((h.al (.cells #[.slice none 0 0] 28)).al (.cells #[.slice none 0 0] 28))
  have HK0 : RowKit.Hid (Kept (At1 g) w ((w.alloc (.cells #[.slice none 0 0] 28)).alloc (.cells #[.slice none 0 0] 28))) := Lib.hid (Kept.of_below (below2 w _ _))
  have Hgb : RowKit.Hid (g < w.heap.size) := Lib.hid h.lt
  obtain ⟨n, gn⟩ : ∃ z, c1 B = z := ⟨_, rfl⟩
  obtain ⟨L0, gL0⟩ : ∃ z, B.drop 1 = z := ⟨_, rfl⟩
  rw [gn] at HN1 HVn hlt ⊢
  rw [gL0] at HN1 HR HVn
  clear h hb gn gL0
  go_enter Try.func58, Try.ntmps58
  go_upto_region 2 with fail
  obtain ⟨w0, gw0⟩ : ∃ z, (w.alloc (.cells #[.slice none 0 0] 28)).alloc (.cells #[.slice none 0 0] 28) = z := ⟨_, rfl⟩
  obtain ⟨b3, gb3⟩ : ∃ z, w.heap.size + 1 = z := ⟨_, rfl⟩
  rw [gw0] at HX0 HY0 HK0 HC0 ⊢
  rw [gb3] at HY0 ⊢
  obtain ⟨b2, gb2⟩ : ∃ z, w.heap.size = z := ⟨_, rfl⟩
  rw [gb2] at HX0 Hgb ⊢
  have Gb2 := Lib.hid gb2
  have Hb3 : RowKit.Hid (b2 < b3 ∧ w.heap.size ≤ b3) := Lib.hid (by omega)
  clear gw0 gb2 gb3
  go_upto_region 3 with (first
    | (go_at_call 73
       refine (HN1.out _ HC0.out).mono ?_
       rintro e w1 ⟨rfl, hcu, hgr⟩
       have HS1 : RowKit.Hid (EdS lo g b2 b3 b2 L0 w 0 none 0 w1) := Lib.hid ⟨hcu, (gk hgr).whole HY0.out (fun e => by have h1 : b3 = g := e; have := Hgb.out; have := Hb3.out; omega), (gk hgr).whole HX0.out (fun e => by have h1 : b2 = g := e; have := Hgb.out; omega), World.ownsRow_nil _ _ _ _, HK0.out.trans (gk hgr)⟩
       clear hcu hgr))
  go_loopw [8] (fun i wr => ∃ (k : Nat) (A : Option Addr) (c : Nat), k ≤ n ∧ i = .int .i64 (k : Int) ∧ RowKit.Hid (EdS lo g b2 b3 b2 L0 w k A c wr)) (fun i _ => n - (intOf i).toNat)
  case atStart => exact ⟨0, none, 0, Nat.zero_le _, rfl, HS1⟩
  case round =>
    clear HS1 HX0 HY0 HC0 HK0
    obtain ⟨k, A, c, hk, rfl, hin⟩ := hrel
    by_cases hlt2 : k < n
    · have HRk := Lib.hid (fun W hc => HR.out k W hc)
      have HE1 : RowKit.Hid (edV (k + 1) L0 = edV k L0 ++ [opV (edL k L0)]) := Lib.hid (edV_snoc k L0)
      have HE2 : RowKit.Hid (edL (k + 1) L0 = opL (edL k L0)) := Lib.hid (edL_snoc k L0)
      obtain ⟨o, go⟩ : ∃ z, opV (edL k L0) = z := ⟨_, rfl⟩
      obtain ⟨Lk, gLk⟩ : ∃ z, opL (edL k L0) = z := ⟨_, rfl⟩
      rw [go] at HE1 HRk
      rw [gLk] at HE2 HRk
      clear go gLk
      go_upto_region 4 with fail
      have HD : RowKit.Hid (Ext wr wr.drew) := Lib.hid (below_drewN wr.heap.size wr 1)
      have hne3 := own_ne hin.out.own hin.out.hy (by decide)
      have hneg : some g ≠ (Value.slice A k c).ownBlock := by
        obtain ⟨A1, n1, c1', q1, -, -, -, -⟩ := hin.out.cu
        exact own_ne hin.out.own q1 (by decide)
      have Hneg := Lib.hid hneg
      have hg3 : g ≠ b3 := by have := Hgb.out; have := Hb3.out; omega
      have ld0 : ∀ w', Kept (fun i => i = g ∨ some i = (Value.slice A k c).ownBlock) wr.drew w' → w'.cell? ⟨b3, 0, none⟩ = some (.slice A k c) := fun w' hh => hh.cell (hin.out.hy.dr.cell (i := 0) rfl) (fun e => by
        rcases e with e | e
        · exact hg3 e.symm
        · exact hne3 e)
      clear hne3 hneg hg3
      refine wp_region_tail (fun i => i = g ∨ some i = (Value.slice A k c).ownBlock) [7] (by kernel_rfl) ?_
      apply wpT_next 0 (some 10) (by kernel_rfl)
      · rfl
      · rfl
      · kernel_rfl
      · kernel_rfl
      · kernel_rfl
      · exact fun _ _ _ _ h => h
      apply Exists.intro
      apply And.intro
      · apply yr_run; rfl; intro w' hw'; go_simp; (try with_reducible rfl)
      simp only [Act.put, stA_, st0_, st1_]
      apply wpT_next 1 (some 11) (by kernel_rfl)
      · rfl
      · rfl
      · kernel_rfl
      · kernel_rfl
      · kernel_rfl
      · exact fun _ _ _ _ h => h
      apply Exists.intro
      apply And.intro
      · apply yr_run; rfl; intro w' hw'; go_simp; (try with_reducible rfl)
      simp only [Act.put, stA_, st0_, st1_]
      apply wpT_next 2 (some 12) (by kernel_rfl)
      · rfl
      · rfl
      · kernel_rfl
      · kernel_rfl
      · kernel_rfl
      · exact fun _ _ _ _ h => h
      apply Exists.intro
      apply And.intro
      · apply yr_run; rfl; intro w' hw'; go_simp; (try with_reducible rfl)
      simp only [Act.put, stA_, st0_, st1_]
      apply wpT_call 3 (some 13)
      · rfl
      · rfl
      · kernel_rfl
      · rfl
      · intro w'; go_simp; first | done | exact ⟨rfl, rfl⟩ | with_reducible rfl
      intro w' hw'
      have HCa := hin.out.cu.bl (Ext.trans HD.out hw')
      have HAl := hin.out.bl (Ext.trans HD.out hw')
      refine (HRk.out _ HCa).mono ?_
      rintro e w1 ⟨rfl, hcu⟩
      refine ⟨_, rfl, hcu.2.wider (fun i _ e => .inl e), ?_⟩
      have HC5 := Lib.hid hcu.1
      have HY5 := Lib.hid (hcu.2.whole HAl.hy (fun e => by have h1 : b3 = g := e; have := Hgb.out; have := Hb3.out; omega))
      have HX5 := Lib.hid (hcu.2.whole HAl.hx (fun e => by have h1 : b2 = g := e; have := Hgb.out; omega))
      have HO5 := Lib.hid (own_at1 HAl.own hcu.2 Hneg.out)
      have HK5 := Lib.hid (HAl.kp.trans hcu.2)
      clear hw' hcu HCa HAl ld0
      simp only [Act.put, stA_, st0_, st1_]
      apply wpT_run 4 (some 14)
      · rfl
      · rfl
      · kernel_rfl
      · rfl
      intro w' hw'
      refine ⟨.slice (some ⟨w'.heap.size, 0, none⟩) 1 1, w'.alloc (.cells (opCells o).toArray 53), exec_buildSlice 26 53 1 #[(0, .tmp 13)] (by rfl) Try.underlying26 _ (by kernel_rfl), Kept.of_below (below1 _ _), ?_⟩
      have hE : Ext w1 (w'.alloc (.cells (opCells o).toArray 53)) := Ext.trans hw' (below1 _ _)
      have HL6 : RowKit.Hid (RdS (w'.alloc (.cells (opCells o).toArray 53)) (w'.alloc (.cells (opCells o).toArray 53)).heap.size 20 (some ⟨w'.heap.size, 0, none⟩) 1 1 (rowsV opCells [o])) := Lib.hid (by rw [rowsOp1]; exact RdS.of_whole8 (Whole.new_ _ _ _) rfl)
      have HC6 := Lib.hid (HC5.out.bl hE)
      have HY6 := Lib.hid (HY5.out.bl hE)
      have HX6 := Lib.hid (HX5.out.bl hE)
      have HO6 := Lib.hid (own_up HO5.out hE)
      have HK6 := Lib.hid (HK5.out.trans (Kept.of_below hE))
      obtain ⟨w2, gw2⟩ : ∃ z, w'.alloc (.cells (opCells o).toArray 53) = z := ⟨_, rfl⟩
      obtain ⟨g6, gg6⟩ : ∃ z, w'.heap.size = z := ⟨_, rfl⟩
      rw [gw2] at HL6 HC6 HY6 HX6 HO6 HK6 ⊢
      rw [gg6] at HL6 ⊢
      clear hw' hE gw2 gg6 HC5 HY5 HX5 HO5 HK5
      simp only [Act.put, stA_, st0_, st1_]
      apply wpT_run 5 (some 15)
      · rfl
      · rfl
      · kernel_rfl
      · rfl
      intro w' hw'
      have hO := own_up HO6.out hw'
      have hY := HY6.out.bl hw'
      have hX := HX6.out.bl hw'
      have hC := HC6.out.bl hw'
      have hB2 : b2 ≤ w'.heap.size := by have := hX.lt; omega
      obtain ⟨vv, w'', hrun, ho, hb, hg, hbk⟩ := Ow.app2 (P := Try.prog) 26 26 53 i0 _ 20 168 _ Try.underlying26 hi hz0 hz1 hz2 rfl (by decide) _ _ _ (ow_of hO hB2) _ _ _ _ _ (HL6.out.bl hw') (rowsV_one opCells opCells_one [o]) (by unfold maxLen; omega) (by omega)
      refine ⟨vv, w'', exec_append (by rfl) (by rfl) (by rfl) hrun, kept_grow hg (fun i e => .inr e), ?_⟩
      obtain ⟨A7, c7, rfl, -⟩ := ho.rds
      have hne3 := own_ne hO hY (by decide)
      have hne2 := own_ne hO hX (by decide)
      have hkb : Kept (fun i => some i = (Value.slice A k c).ownBlock) w' w'' := kept_grow hg (fun i e => e)
      have hlo7 : ∀ i, some i = (Value.slice A k c).ownBlock → b2 ≤ i := fun i e => (hO.lt i e.symm).1
      have HC7 := Lib.hid (hC.kept hkb Hneg.out (fun i hi e => by have h1 := hlo7 i e; have := hC.ge; have := Hgb.out; omega))
      have HY7 := Lib.hid (hkb.whole hY hne3)
      have HX7 := Lib.hid (hkb.whole hX hne2)
      have HO7 := Lib.hid ho.own
      have HK7 : RowKit.Hid (Kept (At1 g) w w'') := Lib.hid ⟨hkb.os.trans (HK6.out.trans (Kept.of_ext hw')).os, hkb.tape.trans (HK6.out.trans (Kept.of_ext hw')).tape, hkb.output.trans (HK6.out.trans (Kept.of_ext hw')).output, Nat.le_trans (HK6.out.trans (Kept.of_ext hw')).size hkb.size, fun i hi hn => (hkb.block i (Nat.lt_of_lt_of_le hi (HK6.out.trans (Kept.of_ext hw')).size) (fun e => by have h1 := hlo7 i e; have := Gb2.out; omega)).trans ((HK6.out.trans (Kept.of_ext hw')).block i hi hn)⟩
      obtain ⟨w3, gw3⟩ : ∃ z, w'' = z := ⟨_, rfl⟩
      rw [gw3] at HC7 HY7 HX7 HO7 HK7 ⊢
      clear hw' hO hY hX hC hB2 hrun ho hb hg hbk hne3 hne2 hkb hlo7 gw3 HL6 HC6 HY6 HX6 HO6 HK6
      simp only [Act.put, stA_, st0_, st1_]
      apply wpT_next 6 (some 16) (by kernel_rfl)
      · rfl
      · rfl
      · kernel_rfl
      · kernel_rfl
      · kernel_rfl
      · exact fun _ _ _ _ h => h
      apply Exists.intro
      apply And.intro
      · apply yr_run; rfl; intro w' hw'; go_simp; (try with_reducible rfl)
      simp only [Act.put, stA_, st0_, st1_]
      apply wpT_last 7
      · rfl
      · rfl
      · kernel_rfl
      · rfl
      · decide
      intro w' hw'
      have hy := HY7.out.bl hw'
      have hcl := hy.cell (i := 0) rfl
      have hfr := hy.free 0
      refine ⟨w'.setCell ⟨b3, 0, none⟩ (.slice A7 (k + 1) c7), ?_, ?_⟩
      · go_simp; first | done | exact rfl
      have HS8 : RowKit.Hid (EdS lo g b2 b3 b2 L0 w (k + 1) A7 c7 (w'.setCell ⟨b3, 0, none⟩ (.slice A7 (k + 1) c7))) := Lib.hid (by
        have hx := HX7.out.bl hw'
        refine ⟨?_, hy.set_ 0 _, hx.far (p := ⟨b3, 0, none⟩) (show b2 ≠ b3 by have := Hb3.out; omega) _, ?_, kept_poke (HK7.out.trans (Kept.of_ext hw')) Hb3.out.2 _⟩
        · rw [HE2.out]
          exact (HC7.out.bl hw').poke (by have := Hgb.out; have := Hb3.out; omega) _
        · rw [HE1.out, rowsV_app]
          exact own_cell_far (own_up HO7.out hw') (own_ne (own_up HO7.out hw') hy (by decide)) _)
      obtain ⟨w4, gw4⟩ : ∃ z, w'.setCell ⟨b3, 0, none⟩ (.slice A7 (k + 1) c7) = z := ⟨_, rfl⟩
      rw [gw4] at HS8 ⊢
      clear hw' hy hcl hfr gw4 HC7 HY7 HX7 HO7 HK7
      try simp only [Act.put, stA_, st0_, st1_]
      refine wpT_done (by kernel_rfl) ?_ _
      intro wE hwE
      have HS9 := Lib.hid (HS8.out.bl hwE)
      clear HS8 hwE hin
      go_wp2
      go_roundw
      case rel => exact ⟨k + 1, A7, c7, by omega, by go_num, HS9⟩
      case measure => simp [intOf]; omega
    · obtain rfl : n = k := by omega
      obtain ⟨hcu, hy, hx, ho, hk9⟩ := hin.out
      have HF : RowKit.Hid (∃ A' c', Ending.returned (.agg #[.slice A n c]) = .returned (.agg #[.slice A' n c']) ∧ (wr.setCell ⟨b2, 0, none⟩ (.slice A n c)).ownsRow w.heap.size 53 20 (.slice A' n c') n (rowsV opCells (rdV B)) ∧ Cu1 lo w (wr.setCell ⟨b2, 0, none⟩ (.slice A n c)) g (rdR B)) := Lib.hid ⟨A, c, rfl, by rw [HVn.out.1]; exact Gb2.out.symm ▸ own_cell_far ho (own_ne ho hx (by decide)) _, by rw [HVn.out.2]; exact hcu.poke Hgb.out _, kept_poke hk9 (Nat.le_of_eq Gb2.out) _⟩
      have HXz := Lib.hid (hx.set_ 0 (.slice A n c))
      have l0 := hy.cell (i := 0) rfl
      have q0 := hx.cell (i := 0) rfl
      have f0 := hx.free 0
      clear hcu hy hx ho hk9 hin hk hlt2
      go_wp2
      exact ret_whole rfl b2 rfl HXz.out Try.underlying28 rfl (by kernel_rfl) rfl HF.out
end Go.Proofs.Ytinfbaflkjghhaa
/- opcode.Take. -/
namespace Go.Proofs.Ytinfbaflkjghhaa
open Go.RowKit
/-- R is what is left of L. -/
def Suf (L R : List Nat) : Prop := ∃ j, R = L.drop j
theorem Suf.refl (L : List Nat) : Suf L L := ⟨0, rfl⟩
theorem Suf.drop {L R : List Nat} (h : Suf L R) (n : Nat) : Suf L (R.drop n) := by
  obtain ⟨j, rfl⟩ := h
  exact ⟨j + n, by rw [List.drop_drop]⟩
theorem Suf.lI {L R : List Nat} (h : Suf L R) : Suf L (lI R) := by unfold Go.Proofs.Ytinfbaflkjghhaa.lI; split; exact h.drop 4; exact h
theorem Suf.lM {L R : List Nat} (h : Suf L R) : Suf L (lM R) := by unfold Go.Proofs.Ytinfbaflkjghhaa.lM; split; exact h.drop 8; exact h
theorem Suf.leT {L R : List Nat} (h : Suf L R) : Suf L (leT R) := by unfold Go.Proofs.Ytinfbaflkjghhaa.leT; split; exact h.drop _; exact h
theorem Suf.crL {L R : List Nat} (h : Suf L R) : Suf L (crL R) := by
  unfold Go.Proofs.Ytinfbaflkjghhaa.crL; split
  · exact (h.lI.drop 1).lI
  · exact h.lI.drop 1
theorem Suf.fdL {L R : List Nat} (k : Nat) (h : Suf L R) : Suf L (fdL k R) := by
  unfold Go.Proofs.Ytinfbaflkjghhaa.fdL
  split
  · exact h.crL.crL
  split
  · exact h.lI.lI.drop 1
  split
  · exact h.lI
  split
  · exact (h.drop 1).leT
  split
  · exact (h.drop 1).lM
  · exact h
theorem Suf.opL {L R : List Nat} (h : Suf L R) : Suf L (opL R) := ((h.drop 1).lI).fdL _
theorem Suf.edL {L : List Nat} : ∀ (k : Nat) {R : List Nat}, Suf L R → Suf L (edL k R)
  | 0, _, h => h
  | k + 1, _, h => Suf.edL k h.opL
theorem rdR_suf (B : List Nat) : Suf B (rdR B) := Suf.edL _ ((Suf.refl B).drop 1)
theorem Suf.at_ {L R : List Nat} (h : Suf L R) : R.length ≤ L.length ∧ L.drop (L.length - R.length) = R := by
  obtain ⟨j, rfl⟩ := h
  rw [List.length_drop]
  by_cases hj : j ≤ L.length
  · exact ⟨by omega, by rw [show L.length - (L.length - j) = j by omega]⟩
  · exact ⟨by omega, by rw [List.drop_eq_nil_of_le (by omega), List.drop_eq_nil_of_le (by omega)]⟩
theorem Suf.lt {L R : List Nat} (h : Suf L R) (hb : ∀ b ∈ L, b < 256) : ∀ b ∈ R, b < 256 := by
  obtain ⟨j, rfl⟩ := h
  exact drop_lt hb j
/-- Whether bytes begin with an edit that may be; that edit, and what is behind it. -/
def okEd (B : List Nat) : Bool := decide (mayE (rdV B) = 0 ∧ edB (rdV B) ++ rdR B = B)
def tkV (B : List Nat) : List OpT := if okEd B = true then rdV B else []
def tkR (B : List Nat) : List Nat := if okEd B = true then rdR B else B
def tkE (B : List Nat) : Int := if okEd B = true then 0 else 2
theorem okEd_is {B : List Nat} (h : okEd B = true) : isE B (rdV B) (rdR B) := ⟨(of_decide_eq_true h).1, (of_decide_eq_true h).2.symm⟩
theorem is_okEd {B : List Nat} {L : List OpT} {R : List Nat} (h : isE B L R) : okEd B = true ∧ rdV B = L ∧ rdR B = R := by
  obtain ⟨h1, h2, -, -, -⟩ := isE_rd h
  refine ⟨decide_eq_true ?_, h1, h2⟩
  rw [h1, h2]
  exact ⟨h.1, h.2.symm⟩
theorem okEd_eq {B : List Nat} (hm : mayE (rdV B) = 0) : okEd B = decide (edB (rdV B) = B.take (B.length - (rdR B).length)) := by
  have hs := (rdR_suf B).at_
  refine decide_eq_decide.2 ⟨fun h => ?_, fun h => ⟨hm, ?_⟩⟩
  · have e := h.2
    have hl : (edB (rdV B)).length = B.length - (rdR B).length := by
      have := congrArg List.length e
      rw [List.length_append] at this
      omega
    have e2 : B.take (edB (rdV B)).length = edB (rdV B) := by
      conv => lhs; arg 2; rw [← e]
      exact List.take_left
    rw [← hl]
    exact e2.symm
  · rw [h]
    conv => lhs; rhs; rw [← hs.2]
    exact List.take_append_drop _ _
/-- What Take tells. -/
def GivesTk (w : World) (B : List Nat) (e : Ending) (w' : World) : Prop :=
  ∃ A1 k1 A2 k2 m, e = .returned (.tuple #[.agg #[.slice A1 (tkV B).length k1], .slice A2 m k2, .int .i64 (tkE B)]) ∧ m = (tkR B).length ∧ w'.ownsRow w.heap.size 53 20 (.slice A1 (tkV B).length k1) (tkV B).length (rowsV opCells (tkV B)) ∧ w'.ownsRow w.heap.size 5 1 (.slice A2 m k2) m (rowsV f8 (tkR B)) ∧ Below w.heap.size w w'
theorem bel_kept {w0 w w' : World} {g : Nat} (h : Below w0.heap.size w0 w) (hk : Kept (At1 g) w w') (hg : w0.heap.size ≤ g) : Below w0.heap.size w0 w' :=
  h.trans (hk.below h.size (fun i hi e => by have h1 : i = g := e; omega))
set_option maxRecDepth 100000 in
set_option maxHeartbeats 8000000 in
theorem otake_any (A : Option Addr) (c : Nat) (B : List Nat) (w : World) (h : RdS w w.heap.size 1 A B.length c (rowsV f8 B)) (hn : B.length ≤ 90000) (hb : ∀ b ∈ B, b < 256) :
    Calls Try.prog 38 #[.slice A B.length c] w (GivesTk w B) := by
  have HR0 := Lib.hid h
  have Hb := Lib.hid hb
  have HE := Lib.hid (fun lo g W hc => redit_any lo g B W hc hb)
  have HX0 : RowKit.Hid (Whole (w.alloc (.cells #[.slice none 0 0] 28)) w.heap.size 28 [.slice none 0 0]) := Lib.hid (Whole.new_ _ _ [_])
  have HG0 : RowKit.Hid (Whole ((w.alloc (.cells #[.slice none 0 0] 28)).alloc (.cells #[.slice A B.length c] 102)) (w.heap.size + 1) 102 [.slice A B.length c]) := Lib.hid (Whole.new2 (by simp))
  have HX1 := Lib.hid (HX0.out.al (.cells #[.slice A B.length c] 102))
  have HB1 : RowKit.Hid (Below w.heap.size w ((w.alloc (.cells #[.slice none 0 0] 28)).alloc (.cells #[.slice A B.length c] 102))) := Lib.hid (below2 w _ _)
  have HC1 : RowKit.Hid (CuAt w.heap.size ((w.alloc (.cells #[.slice none 0 0] 28)).alloc (.cells #[.slice A B.length c] 102)) (w.heap.size + 1) B) := Lib.hid ⟨A, B.length, c, HG0.out, (HR0.out.al _).al _, by omega, fun a ha h0 => h.low a ha h0, by omega⟩
  have Hs := Lib.hid (rdR_suf B).at_
  have hle := h.le
  have Hle := Lib.hid hle
  obtain ⟨n, gn⟩ : ∃ z, B.length = z := ⟨_, rfl⟩
  have Gn := Lib.hid gn
  rw [gn] at HR0 HG0 HX1 HB1 HC1 Hs hn Hle ⊢
  clear h hb gn HX0 hle
  go_enter Try.func38, Try.ntmps38
  go_upto_region 2 with fail
  obtain ⟨w1, gw1⟩ : ∃ z, (w.alloc (.cells #[.slice none 0 0] 28)).alloc (.cells #[.slice A n c] 102) = z := ⟨_, rfl⟩
  obtain ⟨g, gg⟩ : ∃ z, w.heap.size + 1 = z := ⟨_, rfl⟩
  rw [gw1] at HG0 HX1 HB1 HC1 ⊢
  rw [gg] at HG0 HC1 ⊢
  obtain ⟨b2, gb2⟩ : ∃ z, w.heap.size = z := ⟨_, rfl⟩
  rw [gb2] at HX1
  rw [gb2]
  have Gb2 := Lib.hid gb2
  have Hgb : RowKit.Hid (b2 < g) := Lib.hid (by omega)
  clear gw1 gg gb2
  go_upto_region 3 with (first
    | (go_at_call 58
       refine (HE.out _ _ _ HC1.out).mono ?_
       rintro e w2 ⟨A1, k1, rfl, ho, hcu⟩
       have HX2 := Lib.hid ((hcu.2.whole HX1.out (fun e => by have h1 : b2 = g := e; have := Hgb.out; omega)).al (.cells #[.slice A1 (c1 B) k1] 28))
       have HC2 := Lib.hid (hcu.1.al (.cells #[.slice A1 (c1 B) k1] 28))
       have HO2 := Lib.hid (own_up ho (below1 w2 (.cells #[.slice A1 (c1 B) k1] 28)))
       have HB2 : RowKit.Hid (Below w.heap.size w (w2.alloc (.cells #[.slice A1 (c1 B) k1] 28))) := Lib.hid (bel_al (bel_kept HB1.out hcu.2 (by have := Gb2.out; have := Hgb.out; omega)) _)
       have HY2 : RowKit.Hid (Whole (w2.alloc (.cells #[.slice A1 (c1 B) k1] 28)) w2.heap.size 28 [.slice A1 (c1 B) k1]) := Lib.hid (Whole.new_ _ _ [_])
       have Hl1 : RowKit.Hid (w.heap.size ≤ w1.heap.size) := Lib.hid HB1.out.size
       have H26 : RowKit.Hid (b2 ≠ w2.heap.size) := Lib.hid (by have := (hcu.2.whole HX1.out (fun e => by have h1 : b2 = g := e; have := Hgb.out; omega)).lt; omega)
       clear ho hcu HC1 HX1))
  obtain ⟨w3, gw3⟩ : ∃ z, w2.alloc (.cells #[.slice A1 (c1 B) k1] 28) = z := ⟨_, rfl⟩
  obtain ⟨b6, gb6⟩ : ∃ z, w2.heap.size = z := ⟨_, rfl⟩
  rw [gw3] at HX2 HC2 HO2 HB2 HY2 ⊢
  rw [gb6] at HY2 H26 ⊢
  clear gw3 gb6 HG0
  obtain ⟨A9, n9, c9, hg9, hr9, hn9, -, -⟩ := HC2.out
  have hl9 : (rdR B).length = n9 := hr9.rlen f8_len (by decide)
  have e0 := hg9.cell (i := 0) rfl
  have hs1 := Hs.out.1
  have hs2 := Hs.out.2
  rw [hl9] at hs1 hs2
  have hsub : IntKind.i64.wrap ((n : Int) - (n9 : Int)) = ((n - n9 : Nat) : Int) := by rw [IntWalk.i64_in _ (by omega)]; omega
  obtain ⟨en, gen⟩ : ∃ z, n - n9 = z := ⟨_, rfl⟩
  rw [gen] at hsub hs2
  have hne : en ≤ n ∧ n - en = n9 := by omega
  have Hne := Lib.hid hne
  have Hs2 := Lib.hid hs2
  have Hl9 := Lib.hid hl9
  clear hr9 hg9 hn9 hl9 hs1 hs2 gen hne
  go_upto_region 4 with fail
  clear e0 hsub
  have hlV : (rdV B).length = c1 B := edV_len _ _
  have HlV := Lib.hid hlV
  have hrV := own_rds HO2.out
  have d0 := HY2.out.cell (i := 0) rfl
  have HR3 := Lib.hid (HR0.out.up HB2.out HB2.out.size)
  by_cases hm : mayE (rdV B) = 0
  case neg =>
    have hok : okEd B = false := decide_eq_false (fun q => hm q.1)
    have HP := Lib.hid (oput_not none 0 0 A1 (c1 B) k1 (rdV B) w3 hrV (by have := byte_lt Hb.out; omega) hm)
    obtain ⟨x, gx⟩ : ∃ z, mayE (rdV B) = z := ⟨_, rfl⟩
    rw [gx] at HP hm
    have q1 : (x == 0) = false := beq_eq_false_iff_ne.2 hm
    have q2 : (x != 0) = true := bne_iff_ne.2 hm
    have HT : RowKit.Hid (tkV B = [] ∧ tkR B = B ∧ tkE B = 2) := Lib.hid (by unfold tkV tkR tkE; rw [hok]; exact ⟨rfl, rfl, rfl⟩)
    clear gx hm hok hrV
    go_upto_region 6 with (first
      | (go_at_call 26
         refine HP.out.mono ?_
         rintro e w4 ⟨rfl, hb4⟩
         have HX4 := Lib.hid (HX2.out.bl hb4)
         have HB4 := Lib.hid (bel_bl HB2.out hb4)
         have HR4 := Lib.hid (HR3.out.bl hb4)
         clear hb4 d0))
    have HC4 := Lib.hid (fun W (hx : Below w4.heap.size w4 W) => g8_parts (n := n) Gn.out (Gn.out ▸ clone8 A c B W (Gn.out.symm ▸ HR4.out.bl hx) (by have := Gn.out; omega)))
    go_wp2_with (first
      | (go_at_call 36
         refine (HC4.out _ (Below.refl _ _)).mono ?_
         rintro e w6 ⟨A6, c6, rfl, -, -, ho6, hb6⟩
         have HX6 := Lib.hid (HX4.out.bl hb6)
         have HB6 := Lib.hid (bel_bl HB4.out hb6)
         have HO6 := Lib.hid ho6
         have q0 := HX6.out.cell (i := 0) rfl
         have f0 := HX6.out.free 0
         clear hb6 ho6))
    have hb2l : w.heap.size ≤ b2 := Nat.le_of_eq Gb2.out
    have hXz := HX6.out.set_ 0 (.slice none 0 0)
    refine ret_whole3 rfl b2 rfl rfl rfl hXz Try.underlying28 rfl (by kernel_rfl) rfl ?_
    refine ⟨none, 0, A6, c6, n, by rw [HT.out.1, HT.out.2.2]; rfl, by rw [HT.out.2.1, Gn.out], by rw [HT.out.1]; exact World.ownsRow_nil _ _ _ _, ?_, (HB6.out.setCell (p := ⟨b2, 0, none⟩) hb2l _)⟩
    rw [HT.out.2.1]
    exact own_lo8 (own_cell_far HO6.out (own_ne HO6.out HX6.out (by decide)) _) HB4.out.size
  case pos =>
    have hrn : RdS w3 w3.heap.size 1 none ([] : List Nat).length 0 (rowsV f8 []) := rds_nil _ _ _
    have HP := Lib.hid (oput_yes none 0 [] A1 (c1 B) k1 (rdV B) w3 hrn (by simp) hrV hm)
    rw [List.nil_append] at HP
    have hoe := okEd_eq hm
    rw [Gn.out, Hl9.out, show n - n9 = en by have := Hne.out; omega] at hoe
    have hPl := edB_len hm
    obtain ⟨P, gP⟩ : ∃ z, edB (rdV B) = z := ⟨_, rfl⟩
    have hPb : ∀ b ∈ P, b < 256 := by rw [← gP]; exact edB_lt _
    rw [gP] at HP hoe hPl
    have HPb := Lib.hid hPb
    have Hoe := Lib.hid hoe
    have htb : ∀ b ∈ B.take en, b < 256 := fun b hb => Hb.out b (List.mem_of_mem_take hb)
    have hte := txt_eq hPb htb
    rw [← hoe] at hte
    have Hte := Lib.hid hte
    have htl : (B.take en).length = en := by rw [List.length_take, Gn.out]; have := Hne.out; omega
    have Htl := Lib.hid htl
    clear hm hrV hrn gP hPb htb hoe hte htl hPl
    go_upto_region 5 with (first
      | (go_at_call 26
         refine HP.out.mono ?_
         rintro e w4 ⟨A4, c4, rfl, ho4, hb4⟩
         have HX4 := Lib.hid (HX2.out.bl hb4)
         have HY4 := Lib.hid (HY2.out.bl hb4)
         have HO4 := Lib.hid (own_up HO2.out hb4)
         have HB4 := Lib.hid (bel_bl HB2.out hb4)
         have HR4 := Lib.hid (HR3.out.bl hb4)
         have HP4 := Lib.hid (own_rds ho4)
         clear hb4 d0 ho4))
    have hen : en ≤ c := Nat.le_trans Hne.out.1 Hle.out
    have hQ := HR4.out.fewer8 en
    rw [Htl.out] at hQ
    have HEq := Lib.hid (bequal_any A4 A P.length c4 en c P (B.take en) w4 HP4.out hQ)
    rw [Hte.out] at HEq
    clear hQ
    cases hob : okEd B with
    | false =>
      rw [hob] at HEq
      have HT : RowKit.Hid (tkV B = [] ∧ tkR B = B ∧ tkE B = 2) := Lib.hid (by unfold tkV tkR tkE; rw [hob]; exact ⟨rfl, rfl, rfl⟩)
      clear hob Hte Hoe
      go_upto_region 6 with (first
        | (go_at_call 59
           refine HEq.out.mono ?_
           rintro e w5 ⟨rfl, rfl⟩))
      have HC4 := Lib.hid (fun W (hx : Below w4.heap.size w4 W) => g8_parts (n := n) Gn.out (Gn.out ▸ clone8 A c B W (Gn.out.symm ▸ HR4.out.bl hx) (by have := Gn.out; omega)))
      go_wp2_with (first
        | (go_at_call 36
           refine (HC4.out _ (Below.refl _ _)).mono ?_
           rintro e w6 ⟨A6, c6, rfl, -, -, ho6, hb6⟩
           have HX6 := Lib.hid (HX4.out.bl hb6)
           have HB6 := Lib.hid (bel_bl HB4.out hb6)
           have HO6 := Lib.hid ho6
           have q0 := HX6.out.cell (i := 0) rfl
           have f0 := HX6.out.free 0
           clear hb6 ho6))
      have hb2l : w.heap.size ≤ b2 := Nat.le_of_eq Gb2.out
      have hXz := HX6.out.set_ 0 (.slice none 0 0)
      refine ret_whole3 rfl b2 rfl rfl rfl hXz Try.underlying28 rfl (by kernel_rfl) rfl ?_
      refine ⟨none, 0, A6, c6, n, by rw [HT.out.1, HT.out.2.2]; rfl, by rw [HT.out.2.1, Gn.out], by rw [HT.out.1]; exact World.ownsRow_nil _ _ _ _, ?_, (HB6.out.setCell (p := ⟨b2, 0, none⟩) hb2l _)⟩
      rw [HT.out.2.1]
      exact own_lo8 (own_cell_far HO6.out (own_ne HO6.out HX6.out (by decide)) _) HB4.out.size
    | true =>
      rw [hob] at HEq
      have HT : RowKit.Hid (tkV B = rdV B ∧ tkR B = rdR B ∧ tkE B = 0) := Lib.hid (by unfold tkV tkR tkE; rw [hob]; exact ⟨rfl, rfl, rfl⟩)
      clear hob Hte Hoe
      go_upto_region 7 with (first
        | (go_at_call 59
           refine HEq.out.mono ?_
           rintro e w5 ⟨rfl, rfl⟩))
      have hlow := HR4.out.low_ Hne.out.1
      obtain ⟨AL, hAL⟩ : ∃ A1, (if c = en then A else A.map (·.add (en * 1))) = A1 := ⟨_, rfl⟩
      rw [hAL, show (rowsV f8 B).drop (en * 1) = rowsV f8 (B.drop en) from by rw [Nat.mul_one, rowsV_map8, rowsV_map8, List.map_drop], Hs2.out, Hne.out.2] at hlow
      have HLow := Lib.hid hlow
      have HAL := Lib.hid hAL
      have hCl := fun W (hx : Ext w4 W) => g8_parts (n := n9) Hl9.out (Hl9.out ▸ clone8 AL (c - en) (rdR B) W (Hl9.out.symm ▸ hlow.bl hx) (by have := Hl9.out; have := Hne.out; omega))
      have HCl := Lib.hid hCl
      have HD : RowKit.Hid (Ext w4 w4.drew) := Lib.hid (below_drewN w4.heap.size w4 1)
      have ld0 : ∀ w', Kept (fun i => i = b2) w4.drew w' → w'.cell? ⟨b6, 0, none⟩ = some (.slice A1 (c1 B) k1) := fun w' hh => hh.cell (HY4.out.dr.cell (i := 0) rfl) (fun e => H26.out e.symm)
      clear hlow hAL hCl
      refine wp_region_reg (fun i => i = b2) (by kernel_rfl) ?_
      refine opR_ 0 39 (v := ?_) ?_ ?_; rotate_left
      · intro w' hw'; go_simp; (try with_reducible rfl)
      simp only [st0_, st1_]
      refine opR_ 1 40 (v := ?_) ?_ ?_; rotate_left
      · intro w' hw'; go_simp; (try with_reducible rfl)
      simp only [st0_, st1_]
      refine opR_ 2 41 (v := ?_) ?_ ?_; rotate_left
      · intro w' hw'; go_simp; (try with_reducible rfl)
      simp only [st0_, st1_]
      refine opX_ 3 42 ?_
      apply Exists.intro
      apply And.intro
      · apply yr_run; rfl; intro w' hw'; exact exec_slice_low_as 23 5 (.tmp 40) (.tmp 41) rfl Try.underlying23 (s := 1) (by kernel_rfl) rfl rfl Hne.out.1 HAL.out Hne.out.2 rfl
      simp only [st0_, st1_]
      apply wpR_call 4 (some 43)
      · rfl
      · rfl
      · kernel_rfl
      · rfl
      · intro w'; go_simp; first | done | exact ⟨rfl, rfl⟩ | with_reducible rfl
      intro w' hw'
      have hE := Ext.trans HD.out hw'
      refine (HCl.out w' hE).mono ?_
      rintro e w6 ⟨A6, c6, rfl, -, -, ho6, hb6⟩
      refine ⟨_, rfl, Kept.of_below hb6, ?_⟩
      have HX6 := Lib.hid (HX4.out.bl (Ext.trans hE hb6))
      have HB6 : RowKit.Hid (Below w.heap.size w w6) := Lib.hid (bel_bl HB4.out (Ext.trans hE hb6))
      have HO6 := Lib.hid (own_lo8 ho6 (bel_bl HB4.out hE).size)
      have HV6 := Lib.hid (own_up HO4.out (Ext.trans hE hb6))
      clear hw' hE ho6 hb6 ld0
      simp only [Act.put, stA_, st0_, st1_]
      apply wpR_store 5
      · rfl
      · rfl
      · kernel_rfl
      · rfl
      intro w' hw'
      have hx := HX6.out.bl hw'
      have q0 := hx.cell (i := 0) rfl
      have f0 := hx.free 0
      refine ⟨w'.setCell ⟨b2, 0, none⟩ (.slice A1 (c1 B) k1), ?_, Kept.setCell (S := fun i => i = b2) (Kept.refl _ w') (p := ⟨b2, 0, none⟩) (.inl rfl) _, ?_⟩
      · go_simp
      have HX7 := Lib.hid (hx.set_ 0 (.slice A1 (c1 B) k1))
      have HB7 := Lib.hid ((bel_bl HB6.out hw').setCell (p := ⟨b2, 0, none⟩) (Nat.le_of_eq Gb2.out) (.slice A1 (c1 B) k1))
      have HO7 := Lib.hid (own_cell_far (g := b2) (i := 0) (own_up HO6.out hw') (own_ne (own_up HO6.out hw') hx (by decide)) (.slice A1 (c1 B) k1))
      have HV7 := Lib.hid (own_cell_far (g := b2) (i := 0) (own_up HV6.out hw') (own_ne (own_up HV6.out hw') hx (by decide)) (.slice A1 (c1 B) k1))
      obtain ⟨w7, gw7⟩ : ∃ z, w'.setCell ⟨b2, 0, none⟩ (.slice A1 (c1 B) k1) = z := ⟨_, rfl⟩
      rw [gw7] at HX7 HB7 HO7 HV7 ⊢
      clear gw7 hw' hx q0 f0 HX6 HB6 HO6 HV6
      try simp only [Act.put, stA_, st0_, st1_]
      refine opR_ 6 3 (v := ?_) ?_ ?_; rotate_left
      · intro w' hw'; go_simp; (try with_reducible rfl)
      simp only [st0_, st1_]
      refine opR_ 7 4 (v := ?_) ?_ ?_; rotate_left
      · intro w' hw'; go_simp; (try with_reducible rfl)
      simp only [st0_, st1_]
      refine wpR_done (by kernel_rfl) ?_ _
      intro wE hwE
      have HX8 := Lib.hid (HX7.out.bl hwE)
      have HB8 := Lib.hid (bel_bl HB7.out hwE)
      have HO8 := Lib.hid (own_up HO7.out hwE)
      have HV8 := Lib.hid (own_up HV7.out hwE)
      clear hwE HX7 HB7 HO7 HV7
      go_wp2
      refine ret_whole3 rfl b2 rfl rfl rfl HX8.out Try.underlying28 rfl (by kernel_rfl) rfl ?_
      refine ⟨A1, k1, A6, c6, n9, by rw [HT.out.1, HT.out.2.2, HlV.out]; rfl, by rw [HT.out.2.1, Hl9.out], by rw [HT.out.1, HlV.out]; exact own_lo8 HV8.out (by have := Hl1.out; omega), by rw [HT.out.2.1]; exact HO8.out, HB8.out⟩
end Go.Proofs.Ytinfbaflkjghhaa
/- Out of XDg13 -/
namespace Go.Proofs.Ytinfbaflkjghhaa
open Go.RowKit
theorem ret_whole2 {P : Program} {fn : Func} {R : Ending → World → Prop} {a : Act} {w : World} {p u : Tmp} {t : TypeId} (h : fn.results = #[.cell p t, .tmp u]) (g : Nat) {t' : TypeId} {cs : List Value} {d : TypeDesc} {v : Value}
    (hp : a.tmps.getD p undef = .pointer (some ⟨g, 0, none⟩)) (hv : a.tmps.getD u undef = v) (hW : Whole w g t' cs) (hu : P.underlying t = some d) (hd : d.isRow = true) (hi : (P.info? t).map (·.size) = some cs.length)
    (hdf : a.defers = []) (hR : R (.returned (.tuple #[.agg cs.toArray, v])) w) : bodyPost P fn R .ret a w := by
  refine bodyPost_ret (v := .tuple #[.agg cs.toArray, v]) ?_ hdf hR
  have hl := run_loadVar_mid (P := P) w g 0 t cs d (fun j v hv => by
    have := hW.cell hv
    simpa using this) hu hd hi
  rw [results_cell_tmp h, hp, hv]
  simp [asAddr, Result.andThen, hl]
end Go.Proofs.Ytinfbaflkjghhaa
/- opcode.Put in one; Whole; the document's example. -/
namespace Go.Proofs.Ytinfbaflkjghhaa
open Go.RowKit
/-- What Put tells. -/
def pE (B : List Nat) (L : List OpT) : List Nat := if mayE L = 0 then B ++ edB L else []
theorem oput_any (A0 : Option Addr) (c0 : Nat) (B : List Nat) (A : Option Addr) (n c : Nat) (L : List OpT) (w : World) (h0 : RdS w w.heap.size 1 A0 B.length c0 (rowsV f8 B)) (hB : B.length ≤ 90000) (h : RdS w w.heap.size 20 A n c (rowsV opCells L)) (hn : n ≤ 1000000) :
    Calls Try.prog 26 #[.slice A0 B.length c0, .agg #[.slice A n c]] w fun e w' => ∃ A' c', e = .returned (.tuple #[.slice A' (pE B L).length c', .int .i64 (mayE L)]) ∧ w'.ownsRow w.heap.size 5 1 (.slice A' (pE B L).length c') (pE B L).length (rowsV f8 (pE B L)) ∧ Below w.heap.size w w' := by
  unfold pE
  by_cases hm : mayE L = 0
  · rw [if_pos hm, hm]
    exact oput_yes A0 c0 B A n c L w h0 hB h hm
  · rw [if_neg hm]
    refine (oput_not A0 B.length c0 A n c L w h hn hm).mono ?_
    rintro e w' ⟨rfl, hb⟩
    exact ⟨none, 0, rfl, World.ownsRow_nil _ _ _ _, hb⟩
/-- Whether bytes are an edit that may be, and no more. -/
def okW (B : List Nat) : Bool := okEd B && decide (rdR B = [])
def whV (B : List Nat) : List OpT := if okW B = true then rdV B else []
def whE (B : List Nat) : Int := if okW B = true then 0 else 2
theorem okW_is {B : List Nat} : okW B = true ↔ ∃ L, mayE L = 0 ∧ B = edB L := by
  constructor
  · intro h
    have h9 := Bool.and_eq_true_iff.1 h
    have h1 := okEd_is h9.1
    rw [of_decide_eq_true h9.2] at h1
    exact ⟨rdV B, h1.1, by have h2 := h1.2; rw [List.append_nil] at h2; exact h2⟩
  · rintro ⟨L, h1, h2⟩
    have h3 : isE B L [] := ⟨h1, by rw [List.append_nil]; exact h2⟩
    obtain ⟨q1, q2, q3⟩ := is_okEd h3
    exact Bool.and_eq_true_iff.2 ⟨q1, decide_eq_true q3⟩
set_option maxRecDepth 100000 in
set_option maxHeartbeats 8000000 in
theorem owhole_any (A : Option Addr) (c : Nat) (B : List Nat) (w : World) (h : RdS w w.heap.size 1 A B.length c (rowsV f8 B)) (hn : B.length ≤ 90000) (hb : ∀ b ∈ B, b < 256) :
    Calls Try.prog 21 #[.slice A B.length c] w fun e w' => ∃ A1 k1, e = .returned (.tuple #[.agg #[.slice A1 (whV B).length k1], .int .i64 (whE B)]) ∧ w'.ownsRow w.heap.size 53 20 (.slice A1 (whV B).length k1) (whV B).length (rowsV opCells (whV B)) ∧ Below w.heap.size w w' := by
  have HT := Lib.hid (otake_any A c B (w.alloc (.cells #[.slice none 0 0] 28)) (h.al _) hn hb)
  have HX0 : RowKit.Hid (Whole (w.alloc (.cells #[.slice none 0 0] 28)) w.heap.size 28 [.slice none 0 0]) := Lib.hid (Whole.new_ _ _ [_])
  have HB0 : RowKit.Hid (Below w.heap.size w (w.alloc (.cells #[.slice none 0 0] 28))) := Lib.hid (below1 _ _)
  have HV : RowKit.Hid (tkV B = (if okEd B = true then rdV B else []) ∧ tkE B = (if okEd B = true then 0 else 2) ∧ tkR B = (if okEd B = true then rdR B else B)) := Lib.hid ⟨rfl, rfl, rfl⟩
  obtain ⟨n, gn⟩ : ∃ z, B.length = z := ⟨_, rfl⟩
  rw [gn] at HT ⊢
  have Gn := Lib.hid gn
  clear h hb hn gn
  go_enter Try.func21, Try.ntmps21
  go_upto_region 1 with fail
  obtain ⟨w0, gw0⟩ : ∃ z, w.alloc (.cells #[.slice none 0 0] 28) = z := ⟨_, rfl⟩
  obtain ⟨b2, gb2⟩ : ∃ z, w.heap.size = z := ⟨_, rfl⟩
  rw [gw0] at HT HX0 HB0 ⊢
  rw [gb2] at HX0 ⊢
  have Gb2 := Lib.hid gb2
  clear gw0 gb2
  obtain ⟨L, gL⟩ : ∃ z, tkV B = z := ⟨_, rfl⟩
  obtain ⟨x, gx⟩ : ∃ z, tkE B = z := ⟨_, rfl⟩
  obtain ⟨R, gR⟩ : ∃ z, tkR B = z := ⟨_, rfl⟩
  have HT1 : RowKit.Hid (Calls Try.prog 38 #[.slice A n c] w0 fun e w' => ∃ A1 k1 A2 k2 m, e = .returned (.tuple #[.agg #[.slice A1 L.length k1], .slice A2 m k2, .int .i64 x]) ∧ m = R.length ∧ w'.ownsRow w0.heap.size 53 20 (.slice A1 L.length k1) L.length (rowsV opCells L) ∧ Below w0.heap.size w0 w') := Lib.hid (by
    refine HT.out.mono ?_
    rintro e w' ⟨A1, k1, A2, k2, m, rfl, h2, h3, -, h5⟩
    rw [gL] at h3
    exact ⟨A1, k1, A2, k2, m, by rw [gL, gx], by rw [← gR]; exact h2, h3, h5⟩)
  rw [gL, gx, gR] at HV
  obtain ⟨l, gl⟩ : ∃ z, L.length = z := ⟨_, rfl⟩
  rw [gl] at HT1
  have Gl := Lib.hid gl
  clear HT gL gx gR gl
  go_upto_region 2 with (first
    | (go_at_call 38
       refine HT1.out.mono ?_
       rintro e w2 ⟨A1, k1, A2, k2, m, rfl, hm, ho, hb2⟩
       have Hm := Lib.hid hm
       have HX2 := Lib.hid ((HX0.out.bl hb2).al (.cells #[.slice A1 l k1] 28))
       have HO2 := Lib.hid (own_up ho (below1 w2 (.cells #[.slice A1 l k1] 28)))
       have HB2 := Lib.hid (bel_al (bel_bl HB0.out hb2) (.cells #[.slice A1 l k1] 28))
       have HY2 : RowKit.Hid (Whole (w2.alloc (.cells #[.slice A1 l k1] 28)) w2.heap.size 28 [.slice A1 l k1]) := Lib.hid (Whole.new_ _ _ [_])
       have Hsz := Lib.hid HB0.out.size
       clear ho hb2 hm))
  obtain ⟨w3, gw3⟩ : ∃ z, w2.alloc (.cells #[.slice A1 l k1] 28) = z := ⟨_, rfl⟩
  obtain ⟨b4, gb4⟩ : ∃ z, w2.heap.size = z := ⟨_, rfl⟩
  rw [gw3] at HX2 HO2 HB2 HY2 ⊢
  rw [gb4] at HY2 ⊢
  clear gw3 gb4 HX0 HB0
  have d0 := HY2.out.cell (i := 0) rfl
  have q0 := HX2.out.cell (i := 0) rfl
  have f0 := HX2.out.free 0
  have hb2l : w.heap.size ≤ b2 := Nat.le_of_eq Gb2.out
  have hno : okW B = false → ∃ A1 k1, Ending.returned (.tuple #[.agg #[.slice none 0 0], .int .i64 2]) = .returned (.tuple #[.agg #[.slice A1 (whV B).length k1], .int .i64 (whE B)]) ∧ (w3.setCell ⟨b2, 0, none⟩ (.slice none 0 0)).ownsRow w.heap.size 53 20 (.slice A1 (whV B).length k1) (whV B).length (rowsV opCells (whV B)) ∧ Below w.heap.size w (w3.setCell ⟨b2, 0, none⟩ (.slice none 0 0)) := fun hq => by
    have e1 : whV B = [] := by unfold whV; rw [hq]; rfl
    have e2 : whE B = 2 := by unfold whE; rw [hq]; rfl
    rw [e1, e2]
    exact ⟨none, 0, rfl, World.ownsRow_nil _ _ _ _, HB2.out.setCell (p := ⟨b2, 0, none⟩) hb2l _⟩
  have Hno := Lib.hid hno
  clear hno
  cases ho : okEd B with
  | false =>
    have hv := HV.out
    rw [ho] at hv
    obtain ⟨hL, hx, -⟩ := hv
    simp only [Bool.false_eq_true, if_false] at hL hx
    subst hx
    have hW : okW B = false := by unfold okW; rw [ho]; rfl
    have HP := Lib.hid (Hno.out hW)
    have HXz := Lib.hid (HX2.out.set_ 0 (.slice none 0 0))
    clear hW hL ho
    go_wp2
    exact ret_whole2 rfl b2 rfl rfl HXz.out Try.underlying28 rfl (by kernel_rfl) rfl HP.out
  | true =>
    have hv := HV.out
    rw [ho] at hv
    obtain ⟨hL, hx, hR⟩ := hv
    simp only [if_true] at hL hx hR
    subst hx
    by_cases hr : R = []
    · have hm0 : m = 0 := by rw [Hm.out, hr]; rfl
      have hW : okW B = true := by unfold okW; rw [ho, ← hR, hr]; rfl
      have e1 : whV B = L := by unfold whV; rw [hW, hL]; rfl
      have e2 : whE B = 0 := by unfold whE; rw [hW]; rfl
      have HP : RowKit.Hid (∃ A' k', Ending.returned (.tuple #[.agg #[.slice A1 l k1], .int .i64 0]) = .returned (.tuple #[.agg #[.slice A' (whV B).length k'], .int .i64 (whE B)]) ∧ (w3.setCell ⟨b2, 0, none⟩ (.slice A1 l k1)).ownsRow w.heap.size 53 20 (.slice A' (whV B).length k') (whV B).length (rowsV opCells (whV B)) ∧ Below w.heap.size w (w3.setCell ⟨b2, 0, none⟩ (.slice A1 l k1))) := Lib.hid (by
        rw [e1, e2, Gl.out]
        exact ⟨A1, k1, rfl, own_lo8 (own_cell_far HO2.out (own_ne HO2.out HX2.out (by decide)) _) Hsz.out, HB2.out.setCell (p := ⟨b2, 0, none⟩) hb2l _⟩)
      have HXz := Lib.hid (HX2.out.set_ 0 (.slice A1 l k1))
      subst hm0
      clear hW hL ho hR hr e1 e2
      go_wp2
      exact ret_whole2 rfl b2 rfl rfl HXz.out Try.underlying28 rfl (by kernel_rfl) rfl HP.out
    · have hm0 : 0 < m := by
        rw [Hm.out]
        exact List.length_pos_iff.2 hr
      have hm1 : (0 : Int) < (m : Int) := by omega
      have hW : okW B = false := by unfold okW; rw [ho, ← hR, decide_eq_false hr]; rfl
      have HP := Lib.hid (Hno.out hW)
      have HXz := Lib.hid (HX2.out.set_ 0 (.slice none 0 0))
      clear hW hL ho hR hr
      go_wp2
      exact ret_whole2 rfl b2 rfl rfl HXz.out Try.underlying28 rfl (by kernel_rfl) rfl HP.out
end Go.Proofs.Ytinfbaflkjghhaa
/- The law's few: edits of at most 10 operations, texts cut. -/
namespace Go.Proofs.Ytinfbaflkjghhaa
open Go.RowKit
def cutO (o : OpT) : OpT := if 100 < o.t.size then { o with t := o.t.extract 0 100 } else o
theorem cutO_size (o : OpT) : (cutO o).t.size ≤ 100 := by
  unfold cutO
  split
  · show (o.t.extract 0 100).size ≤ 100
    rw [ByteArray.size_extract]
    omega
  · omega
end Go.Proofs.Ytinfbaflkjghhaa
/- Out of XOp14 -/
namespace Go.Proofs.Ytinfbaflkjghhaa
open Go.RowKit
theorem eqs_next {α : Type} [DecidableEq α] {L M : List α} {k : Nat} {x y : α} (hx : L[k]? = some x) (hy : M[k]? = some y) (h : L.take k = M.take k) (e : x = y) : L.take (k + 1) = M.take (k + 1) := by
  rw [take_snoc_ L k x hx, take_snoc_ M k y hy, h, e]
theorem eqs_not {α : Type} [DecidableEq α] {L M : List α} {k : Nat} {x y : α} (hx : L[k]? = some x) (hy : M[k]? = some y) (e : ¬ x = y) : decide (L = M) = false := by
  refine decide_eq_false fun h => e ?_
  subst h
  rw [hx] at hy
  exact Option.some.inj hy
theorem eqs_all {α : Type} [DecidableEq α] {L M : List α} {k : Nat} (hl : L.length ≤ k) (hm : M.length ≤ k) (h : L.take k = M.take k) : decide (L = M) = true := by
  rw [List.take_of_length_le hl, List.take_of_length_le hm] at h
  exact decide_eq_true h
theorem eqs_len {α : Type} [DecidableEq α] {L M : List α} (h : ¬ L.length = M.length) : decide (L = M) = false := decide_eq_false fun e => h (by rw [e])
set_option maxRecDepth 100000 in
set_option maxHeartbeats 2000000 in
theorem rsame_any (A A' : Option Addr) (n n' c c' : Nat) (L M : List (OpT)) (w : World) (h : RdS w w.heap.size 20 A n c (rowsV opCells L)) (h' : RdS w w.heap.size 20 A' n' c' (rowsV opCells M)) (hn : n ≤ maxLen) :
    Calls Try.prog 24 #[.agg #[.slice A n c], .agg #[.slice A' n' c']] w fun e w' => e = .returned (.bool (decide (L = M))) ∧ Below w.heap.size w w' := by
  have hl := h.rlen opCells_len' (by decide)
  have hl' := h'.rlen opCells_len' (by decide)
  unfold maxLen at hn
  obtain rfl := hl
  obtain rfl := hl'
  have HR := Lib.hid h
  have HR' := Lib.hid h'
  clear h h'
  by_cases hlen : L.length = M.length
  case neg =>
    rw [eqs_len hlen]
    have q : (((L.length : Nat) : Int) == ((M.length : Nat) : Int)) = false := beq_eq_false_iff_ne.2 (by omega)
    have q2 : (((L.length : Nat) : Int) != ((M.length : Nat) : Int)) = true := bne_iff_ne.2 (by omega)
    have q3 : decide (L.length = M.length) = false := decide_eq_false hlen
    clear hn
    go_enter Try.func24, Try.ntmps24
    go_wp2
    go_ret
    exact ⟨rfl, below2 _ _ _⟩
  rw [← hlen] at HR' ⊢
  have HLM := Lib.hid hlen
  clear hlen
  go_enter Try.func24, Try.ntmps24
  go_wp2
  obtain ⟨W1, gW1⟩ : ∃ x, (w.alloc (.cells #[.slice A L.length c] 28)).alloc (.cells #[.slice A' L.length c'] 28) = x := ⟨_, rfl⟩
  have HB : RowKit.Hid (Below w.heap.size w W1) := Lib.hid (by rw [← gW1]; exact below2 _ _ _)
  have HRd : RowKit.Hid (RdS W1 W1.heap.size 20 A L.length c (rowsV opCells L)) := Lib.hid (by rw [← gW1]; exact (HR.out.al _).al _)
  have HRd' : RowKit.Hid (RdS W1 W1.heap.size 20 A' L.length c' (rowsV opCells M)) := Lib.hid (by rw [← gW1]; exact (HR'.out.al _).al _)
  have HE : RowKit.Hid (Whole W1 w.heap.size 28 [.slice A L.length c]) := Lib.hid (by rw [← gW1]; exact (Whole.new_ w _ [_]).al _)
  have HE' : RowKit.Hid (Whole W1 (w.heap.size + 1) 28 [.slice A' L.length c']) := Lib.hid (by rw [← gW1]; exact Whole.new2 (cs := [_]) (by simp))
  rw [gW1]
  clear gW1
  obtain ⟨g0, gg0⟩ : ∃ x, w.heap.size = x := ⟨_, rfl⟩
  rw [gg0] at HE HE' ⊢
  clear gg0
  go_loopw [5] (fun i wr => ∃ k : Nat, k ≤ L.length ∧ i = .int .i64 k ∧ RowKit.Hid (Ext W1 wr ∧ L.take k = M.take k)) (fun i _ => L.length - (intOf i).toNat)
  case atStart => exact ⟨0, Nat.zero_le _, rfl, Lib.hid ⟨Ext.refl _, rfl⟩⟩
  case round =>
    rename_i wr _
    obtain ⟨k, hk, rfl, hin⟩ := hrel
    have le := (HE.out.bl hin.out.1).cell (i := 0) rfl
    have le' := (HE'.out.bl hin.out.1).cell (i := 0) rfl
    by_cases hlt : k < L.length
    · have hx : L[k]? = some (L[k]'(by omega)) := List.getElem?_eq_getElem _
      have hy : M[k]? = some (M[k]'(by have := HLM.out; omega)) := List.getElem?_eq_getElem _
      obtain ⟨x, gx⟩ : ∃ x, L[k]'(by omega) = x := ⟨_, rfl⟩
      obtain ⟨y, gy⟩ : ∃ x, M[k]'(by have := HLM.out; omega) = x := ⟨_, rfl⟩
      rw [gx] at hx
      rw [gy] at hy
      have HX := Lib.hid hx
      have HY := Lib.hid hy
      have HRd2 := Lib.hid (HRd.out.bl hin.out.1)
      have HRd2' := Lib.hid (HRd'.out.bl hin.out.1)
      obtain ⟨b, off, rfl, hbB, hpl⟩ := HRd2.out.place opCells_len' (by decide) (by omega)
      obtain ⟨b', off', rfl, hbB', hpl'⟩ := HRd2'.out.place opCells_len' (by decide) (by omega)
      have HP := Lib.hid (fun w' (h : Kept Nil_ wr.drew w') j v hj => h.nil_cell (hpl k x hx j v hj))
      have HP' := Lib.hid (fun w' (h : Kept Nil_ wr.drew w') j v hj => h.nil_cell (hpl' k y hy j v hj))
      have hq := neq_op_run x y
      clear gx gy hx hy hpl hpl' hbB hbB'
      by_cases hxy : x = y
      all_goals
        first | rw [decide_eq_true hxy] at hq | rw [decide_eq_false hxy] at hq
        have HQ := Lib.hid hq
        have HXY := Lib.hid hxy
        clear hq hxy
        go_upto_region 6 with fail
        have ld : ∀ w', Kept Nil_ wr.drew w' → w'.cell? ⟨g0, 0, none⟩ = some (.slice (some ⟨b, off, none⟩) L.length c) := fun w' h => h.nil_cell le
        have ld' : ∀ w', Kept Nil_ wr.drew w' → w'.cell? ⟨g0 + 1, 0, none⟩ = some (.slice (some ⟨b', off', none⟩) L.length c') := fun w' h => h.nil_cell le'
        refine wp_region_reg (Nil_) (by kernel_rfl) ?_
        refine opR_ 0 20 (v := ?_) ?_ ?_; rotate_left
        · intro w' hw'; go_simp; (try with_reducible rfl)
        simp only [st0_, st1_]
        refine opR_ 1 21 (v := ?_) ?_ ?_; rotate_left
        · intro w' hw'; go_simp; (try with_reducible rfl)
        simp only [st0_, st1_]
        refine opR_ 2 22 (v := ?_) ?_ ?_; rotate_left
        · intro w' hw'; go_simp; (try with_reducible rfl)
        simp only [st0_, st1_]
        refine opR_ 3 23 (v := ?_) ?_ ?_; rotate_left
        · intro w' hw'; go_simp; (try with_reducible rfl)
        simp only [st0_, st1_]
        refine opX_ 4 24 ?_
        apply Exists.intro
        apply And.intro
        · exact yr_load_at (by rfl) 53 (.tmp 23) rfl ⟨b, off + k * 20, none⟩ rfl (opCells x) _ HP.out Try.underlying53 rfl (by kernel_rfl)
        simp only [st0_, st1_]
        refine opR_ 5 25 (v := ?_) ?_ ?_; rotate_left
        · intro w' hw'; go_simp; (try with_reducible rfl)
        simp only [st0_, st1_]
        refine opR_ 6 26 (v := ?_) ?_ ?_; rotate_left
        · intro w' hw'; go_simp; (try with_reducible rfl)
        simp only [st0_, st1_]
        refine opR_ 7 27 (v := ?_) ?_ ?_; rotate_left
        · intro w' hw'; go_simp; (try with_reducible rfl)
        simp only [st0_, st1_]
        refine opR_ 8 28 (v := ?_) ?_ ?_; rotate_left
        · intro w' hw'; go_simp; (try with_reducible rfl)
        simp only [st0_, st1_]
        refine opX_ 9 29 ?_
        apply Exists.intro
        apply And.intro
        · exact yr_load_at (by rfl) 53 (.tmp 28) rfl ⟨b', off' + k * 20, none⟩ rfl (opCells y) _ HP'.out Try.underlying53 rfl (by kernel_rfl)
        simp only [st0_, st1_]
        refine opX_ 10 30 ?_
        apply Exists.intro
        apply And.intro
        · exact yr_run (by rfl) (fun w' _ => exec_binop_agg .neq 53 (.tmp 24) (.tmp 29) 53 rfl rfl rfl (by kernel_rfl) (HQ.out w'))
        simp only [st0_, st1_]
        refine wpR_done (by kernel_rfl) ?_ _
        intro w2 hw2
        have HX2 := Lib.hid (hin.out.1.trans ((Below.refl _ _).drew.trans hw2))
        clear hw2 ld ld' le le'
      · have HI : RowKit.Hid (Ext W1 w2 ∧ L.take (k + 1) = M.take (k + 1)) := Lib.hid ⟨HX2.out, eqs_next HX.out HY.out hin.out.2 HXY.out⟩
        go_wp2
        go_roundw
        case rel => exact ⟨k + 1, by omega, by go_num, HI⟩
        case measure => simp [intOf]; omega
      · have HF := Lib.hid (eqs_not HX.out HY.out HXY.out)
        go_wp2
        go_ret
        exact ⟨ret_bool HF.out.symm, HB.out.trans (HX2.out.mono HB.out.size)⟩
    · have HF := Lib.hid (eqs_all (L := L) (M := M) (k := k) (by omega) (by have := HLM.out; omega) hin.out.2)
      go_wp2
      go_ret
      exact ⟨ret_bool HF.out.symm, HB.out.trans (hin.out.1.mono HB.out.size)⟩
end Go.Proofs.Ytinfbaflkjghhaa
/- A cell that holds a slice is none of a row's. -/
namespace Go.Proofs.Ytinfbaflkjghhaa
open Go.RowKit
end Go.Proofs.Ytinfbaflkjghhaa
/- OpcodeBack's walk. -/
namespace Go.Proofs.Ytinfbaflkjghhaa
open Go.RowKit
theorem edB_pos (L : List OpT) : 1 ≤ (edB L).length := by simp [edB]
theorem whE_no {B : List Nat} (h : okW B = false) : whE B = 2 := by unfold whE; rw [h]; rfl
end Go.Proofs.Ytinfbaflkjghhaa
/- The document's corner and flag. -/
namespace Go.Proofs.Ytinfbaflkjghhaa
open Go.RowKit
theorem rflag10_any (b : Bool) : Pure 48 #[.bool b] (.int .u8 (fl b : Int)) := fun w => by
  cases b with
  | true =>
    go_enter Try.func48, Try.ntmps48
    go_wp2
    go_ret
    exact ⟨rfl, Below.refl _ _⟩
  | false =>
    go_enter Try.func48, Try.ntmps48
    go_wp2
    go_ret
    exact ⟨rfl, Below.refl _ _⟩
/-- The document's Put of a name, in parts. -/
theorem ridput_4 (A : Option Addr) (n c : Nat) (L : List Nat) (x1 x2 : Int) (w : World) (hl : L.length = n) (h : RdS w w.heap.size 1 A n c (rowsV f8 L)) (hn : n ≤ 900000) (hm : mayI x1 x2 = true) :
    Calls Try.prog 45 #[.slice A n c, .agg #[.int .i64 x1, .int .i64 x2]] w fun e w' => ∃ A c, e = .returned (.slice A (n + 4) c) ∧ RdS w' w'.heap.size 1 A (n + 4) c (rowsV f8 (L ++ idB (x1, x2))) ∧ (∀ a, A = some a → 0 < n + 4 → w.heap.size ≤ a.block) ∧ w'.ownsRow w.heap.size 5 1 (.slice A (n + 4) c) (n + 4) (rowsV f8 (L ++ idB (x1, x2))) ∧ Below w.heap.size w w' := by
  subst hl
  have := ridput_any A c L x1 x2 w h hn hm
  refine g8_parts (by rw [List.length_append]; rfl) this
set_option maxRecDepth 100000 in
set_option maxHeartbeats 4000000 in
theorem rcorner10_any (A : Option Addr) (c : Nat) (L : List Nat) (a0 a1 a2 a3 a4 : Int) (w : World) (h : RdS w w.heap.size 1 A L.length c (rowsV f8 L)) (hn : L.length ≤ 800000) (hm : mayC a0 a1 a2 a3 a4 = true) :
    Calls Try.prog 46 #[.slice A L.length c, .agg #[.int .i64 a0, .int .i64 a1, .int .i64 a2, .int .i64 a3, .int .i64 a4]] w (Gives8 w (L ++ crB (a0, a1, a2, a3, a4))) := by
  obtain ⟨i0, hi, hz0, hz1, hz2⟩ := info_parts_ info_u8
  obtain ⟨hm1, hm2⟩ := Bool.and_eq_true_iff.1 hm
  have HQ := Lib.hid (eq_dartz a2 a3 a4)
  have HR := Lib.hid (h.al (.cells #[.int .i64 a0, .int .i64 a1, .int .i64 a2, .int .i64 a3, .int .i64 a4] 51))
  have HX : RowKit.Hid (Whole (w.alloc (.cells #[.int .i64 a0, .int .i64 a1, .int .i64 a2, .int .i64 a3, .int .i64 a4] 51)) w.heap.size 51 [.int .i64 a0, .int .i64 a1, .int .i64 a2, .int .i64 a3, .int .i64 a4]) := Lib.hid (Whole.new_ _ _ [_, _, _, _, _])
  have HB1 : RowKit.Hid (Below w.heap.size w (w.alloc (.cells #[.int .i64 a0, .int .i64 a1, .int .i64 a2, .int .i64 a3, .int .i64 a4] 51))) := Lib.hid (below1 _ _)
  obtain ⟨n, gn⟩ : ∃ z, L.length = z := ⟨_, rfl⟩
  rw [gn] at HR hn ⊢
  have Gn := Lib.hid gn
  have HN0 := Lib.hid (fun W hr => ridput_4 A n c L a0 a1 W gn hr (by omega) hm1)
  clear h gn hm
  go_enter Try.func46, Try.ntmps46
  go_upto_region 1 with fail
  obtain ⟨w1, gw1⟩ : ∃ z, w.alloc (.cells #[.int .i64 a0, .int .i64 a1, .int .i64 a2, .int .i64 a3, .int .i64 a4] 51) = z := ⟨_, rfl⟩
  rw [gw1] at HX HB1 HR ⊢
  obtain ⟨g0, gg0⟩ : ∃ z, w.heap.size = z := ⟨_, rfl⟩
  rw [gg0] at HX ⊢
  clear gw1 gg0
  have c0 := HX.out.cell (i := 0) rfl
  have c1 := HX.out.cell (i := 1) rfl
  go_upto_region 2 with (first
    | (go_at_call 45
       refine (HN0.out _ HR.out).mono ?_
       rintro e w2 ⟨A2, c2, rfl, -, -, h4, h5⟩
       have HO2 : RowKit.Hid (Ow w1 w1.heap.size 5 1 (.slice A2 (n + 4) c2) (n + 4) (rowsV f8 (L ++ idB (a0, a1))) w2) := Lib.hid ⟨h4, h5, Nat.le_refl _, h5.size⟩
       have HX2 := Lib.hid (HX.out.bl h5)
       clear h4 h5 c0 c1))
  have d2 := HX2.out.cell (i := 2) rfl
  have d3 := HX2.out.cell (i := 3) rfl
  have d4 := HX2.out.cell (i := 4) rfl
  have hq := HQ.out
  by_cases hz : a2 = 0 ∧ a3 = 0 ∧ a4 = 0
  · have HL : RowKit.Hid (crB (a0, a1, a2, a3, a4) = idB (a0, a1) ++ [0]) := Lib.hid (by unfold crB; rw [if_pos hz])
    rw [decide_eq_true hz] at hq
    have HQ2 := Lib.hid hq
    clear hz HX hq hm2
    have hq := HQ2.out
    go_wp2_with (first
      | (at_builtin
         refine wpList_push2 rfl (.tmp 14) (.tmp 15) _ rfl _ 5 i0 _ 1 1 Try.underlying23 hi hz0 hz1 hz2 rfl (by decide) _ _ _ rfl (by exact Ow.up HO2.out (below1 _ _)) _ (some ⟨w2.heap.size, 0, none⟩) 1 1 [.int .u8 0] rfl (by exact RdS.new_ rfl (Nat.lt_succ_self _) rfl rfl) (by simp [Value.oneCell']) (by unfold maxLen; omega) (by omega) ?_
         intro v1 w3 how1 hb1 hgr1
         have HO3 := Lib.hid how1
         clear how1 hb1 hgr1 d2 d3 d4))
    have ho := HO3.out
    rw [show rowsV f8 (L ++ idB (a0, a1)) ++ [.int .u8 0] = rowsV f8 (L ++ (idB (a0, a1) ++ [0])) from by rw [← List.append_assoc, rowsV_app f8 (L ++ _)]; rfl] at ho
    obtain ⟨A9, c9, rfl, hG⟩ := gives8_ow (L := L ++ (idB (a0, a1) ++ [0])) (by rw [List.length_append, Gn.out]; rfl) ho
    rw [← HL.out] at hG
    have HG := Lib.hid (Gives8.from_ hG HB1.out)
    clear ho hG
    go_ret
    exact HG.out
  · have HL : RowKit.Hid (crB (a0, a1, a2, a3, a4) = idB (a0, a1) ++ (((1 + a4) % 256).toNat :: idB (a2, a3))) := Lib.hid (by unfold crB; rw [if_neg hz])
    rw [decide_eq_false hz] at hq
    have HQ2 := Lib.hid hq
    have hmd : mayI a2 a3 = true := by
      rcases Bool.or_eq_true_iff.1 hm2 with q | q
      · exact absurd (of_decide_eq_true q) hz
      · exact (Bool.and_eq_true_iff.1 q).1
    have Hmd := Lib.hid hmd
    clear hz hq hm2 hmd
    have hq := HQ2.out
    go_upto_region 4 with fail
    clear hq d2 d3 d4
    obtain ⟨q, gq⟩ : ∃ q, ((1 + a4) % 256).toNat = q := ⟨_, rfl⟩
    rw [gq] at HL
    obtain ⟨z, gz⟩ : ∃ z, IntKind.i64.wrap (a4 + 1) = z := ⟨_, rfl⟩
    have hu : IntKind.u8.wrap z = (q : Int) := by rw [← gz, IntKind.wrap_u8, IntKind.wrap_i64, ← gq]; omega
    clear gq
    have HD : RowKit.Hid (Ext w2 w2.drew) := Lib.hid (below_drewN w2.heap.size w2 1)
    have Hne : RowKit.Hid (some g0 ≠ (Value.slice A2 (n + 4) c2).ownBlock) := Lib.hid (own_ne HO2.out.own HX2.out (by decide))
    have lC2 : ∀ w', Kept (fun i => some i = (Value.slice A2 (n + 4) c2).ownBlock) w2.drew w' → w'.cell? ⟨g0, 2, none⟩ = some (.int .i64 a2) := fun w' h => h.cell (HX2.out.dr.cell (i := 2) rfl) Hne.out
    have lC3 : ∀ w', Kept (fun i => some i = (Value.slice A2 (n + 4) c2).ownBlock) w2.drew w' → w'.cell? ⟨g0, 3, none⟩ = some (.int .i64 a3) := fun w' h => h.cell (HX2.out.dr.cell (i := 3) rfl) Hne.out
    have lC4 : ∀ w', Kept (fun i => some i = (Value.slice A2 (n + 4) c2).ownBlock) w2.drew w' → w'.cell? ⟨g0, 4, none⟩ = some (.int .i64 a4) := fun w' h => h.cell (HX2.out.dr.cell (i := 4) rfl) Hne.out
    refine wp_region_reg (fun i => some i = (Value.slice A2 (n + 4) c2).ownBlock) (by kernel_rfl) ?_
    refine opR_ 0 17 (v := ?_) ?_ ?_; rotate_left
    · intro w' hw'; go_simp; (try with_reducible rfl)
    simp only [st0_, st1_]
    refine opR_ 1 18 (v := ?_) ?_ ?_; rotate_left
    · intro w' hw'; go_simp; (try with_reducible rfl)
    simp only [st0_, st1_]
    refine opR_ 2 19 (v := ?_) ?_ ?_; rotate_left
    · intro w' hw'; go_simp; (try with_reducible rfl)
    simp only [st0_, st1_]
    refine opR_ 3 20 (v := ?_) ?_ ?_; rotate_left
    · intro w' hw'; go_simp; (try with_reducible rfl)
    simp only [st0_, st1_]
    refine opR_ 4 21 (v := ?_) ?_ ?_; rotate_left
    · intro w' hw'; go_simp; (try with_reducible rfl)
    simp only [st0_, st1_]
    refine opR_ 5 22 (v := ?_) ?_ ?_; rotate_left
    · intro w' hw'; go_simp; (try with_reducible rfl)
    simp only [st0_, st1_]
    refine opR_ 8 25 (v := ?_) ?_ ?_; rotate_left
    · intro w' hw'; go_simp; (try with_reducible rfl)
    simp only [st0_, st1_]
    refine opR_ 9 26 (v := ?_) ?_ ?_; rotate_left
    · intro w' hw'; go_simp; (try with_reducible rfl)
    simp only [st0_, st1_]
    refine opR_ 10 27 (v := ?_) ?_ ?_; rotate_left
    · intro w' hw'; go_simp; (try with_reducible rfl)
    simp only [st0_, st1_]
    apply wpR_run 6 (some 23)
    · rfl
    · rfl
    · kernel_rfl
    · rfl
    intro w' hw'
    refine ⟨.slice (some ⟨w'.heap.size, 0, none⟩) 1 1, w'.alloc (.cells #[.int .u8 (q : Int)] 5), exec_buildSlice 23 5 1 #[(0, .tmp 22)] (by rfl) Try.underlying23 _ (by kernel_rfl), Kept.of_below (below1 _ _), ?_⟩
    have hE : Ext w2 (w'.alloc (.cells #[.int .u8 (q : Int)] 5)) := Ext.trans (Ext.trans HD.out hw') (below1 _ _)
    have HO3 := Lib.hid (HO2.out.up hE)
    have HL3 := Lib.hid (one8 w' q)
    have kk : Kept (fun i => some i = (Value.slice A2 (n + 4) c2).ownBlock) w2.drew (w'.alloc (.cells #[.int .u8 (q : Int)] 5)) := (Kept.of_ext hw').trans (Kept.of_below (below1 _ _))
    replace lC2 := fun w'' (h : Kept (fun i => some i = (Value.slice A2 (n + 4) c2).ownBlock) (w'.alloc (.cells #[.int .u8 (q : Int)] 5)) w'') => lC2 w'' (kk.trans h)
    replace lC3 := fun w'' (h : Kept (fun i => some i = (Value.slice A2 (n + 4) c2).ownBlock) (w'.alloc (.cells #[.int .u8 (q : Int)] 5)) w'') => lC3 w'' (kk.trans h)
    obtain ⟨w3, gw3⟩ : ∃ z, w'.alloc (.cells #[.int .u8 (q : Int)] 5) = z := ⟨_, rfl⟩
    obtain ⟨g3, gg3⟩ : ∃ z, w'.heap.size = z := ⟨_, rfl⟩
    rw [gw3] at HO3 HL3 lC2 lC3 ⊢
    rw [gg3] at HL3 ⊢
    clear hw' hE kk gw3 gg3 lC4
    simp only [Act.put, stA_, st0_, st1_]
    apply wpR_run 7 (some 24)
    · rfl
    · rfl
    · kernel_rfl
    · rfl
    intro w' hw'
    obtain ⟨vv, w'', hrun, ho, hb, hg, hbk⟩ := Ow.app2 (P := Try.prog) 23 23 5 i0 _ 1 1 _ Try.underlying23 hi hz0 hz1 hz2 rfl (by decide) _ _ _ (HO3.out.up hw') _ _ _ _ _ (HL3.out.bl hw') (f8_all [q]) (by unfold maxLen; omega) (by omega)
    refine ⟨vv, w'', exec_append (by rfl) (by rfl) (by rfl) hrun, kept_grow hg (fun i e => e), ?_⟩
    rw [← rowsV_app] at ho
    obtain ⟨A4, c4, rfl, hr4⟩ := ho.rds
    have HO4 := Lib.hid ho
    have HR4 := Lib.hid hr4
    have kk : Kept (fun i => some i = (Value.slice A2 (n + 4) c2).ownBlock) w3 w'' := (Kept.of_ext hw').trans (kept_grow hg (fun i e => e))
    replace lC2 := fun w4 (h : Kept (fun i => some i = (Value.slice A2 (n + 4) c2).ownBlock) w'' w4) => lC2 w4 (kk.trans h)
    replace lC3 := fun w4 (h : Kept (fun i => some i = (Value.slice A2 (n + 4) c2).ownBlock) w'' w4) => lC3 w4 (kk.trans h)
    obtain ⟨w4, gw4⟩ : ∃ z, w'' = z := ⟨_, rfl⟩
    rw [gw4] at HO4 HR4 lC2 lC3 ⊢
    clear hw' kk hrun ho hb hg hbk hr4 gw4 HO3 HL3
    simp only [Act.put, stA_, st0_, st1_]
    apply wpR_call 11 (some 28)
    · rfl
    · rfl
    · kernel_rfl
    · rfl
    · intro w'; go_simp; first | done | exact ⟨rfl, rfl⟩ | with_reducible rfl
    intro w' hw'
    refine (ridput_4 A4 (n + 4 + 1) c4 (L ++ idB (a0, a1) ++ [q]) a2 a3 w' (by rw [List.length_append, List.length_append, Gn.out]; rfl) (HR4.out.bl hw') (by omega) Hmd.out).mono ?_
    rintro e w5 ⟨A5, c5, rfl, -, -, h4, h5⟩
    refine ⟨_, rfl, Kept.of_below h5, ?_⟩
    have HO5 : RowKit.Hid (Ow w1 w1.heap.size 5 1 (.slice A5 (n + 4 + 1 + 4) c5) (n + 4 + 1 + 4) (rowsV f8 (L ++ idB (a0, a1) ++ [q] ++ idB (a2, a3))) w5) := Lib.hid ⟨own_lo8 h4 (HO4.out.below.trans (hw'.mono HO4.out.below.size)).size, HO4.out.below.trans ((Ext.trans hw' h5).mono HO4.out.below.size), Nat.le_refl _, ((HO4.out.below.trans ((Ext.trans hw' h5).mono HO4.out.below.size))).size⟩
    clear hw' h4 h5 lC2 lC3 HO4 HR4
    simp only [Act.put, stA_, st0_, st1_]
    refine opR_ 12 4 (v := ?_) ?_ ?_; rotate_left
    · intro w' hw'; go_simp; (try with_reducible rfl)
    simp only [st0_, st1_]
    refine wpR_done (by kernel_rfl) ?_ _
    intro wE hwE
    have ho := HO5.out.up hwE
    rw [show L ++ idB (a0, a1) ++ [q] ++ idB (a2, a3) = L ++ (idB (a0, a1) ++ (q :: idB (a2, a3))) from by simp only [List.append_assoc, List.cons_append, List.nil_append], ← HL.out] at ho
    obtain ⟨A9, c9, e9, hG⟩ := gives8_ow (L := L ++ crB (a0, a1, a2, a3, a4)) (by rw [HL.out, List.length_append, Gn.out]; rfl) ho
    have HG := Lib.hid (Gives8.from_ hG HB1.out)
    have HE := Lib.hid e9
    clear ho hG hwE e9
    go_wp2
    go_ret
    exact HE.out ▸ HG.out
end Go.Proofs.Ytinfbaflkjghhaa
/- The document's Put of an edit. -/
namespace Go.Proofs.Ytinfbaflkjghhaa
open Go.RowKit
/-- What an operation that may be names may be. -/
theorem mayO_parts {o : OpT} (h : mayO o = 0) : (o.k = 3 → mayC o.a0 o.a1 o.a2 o.a3 o.a4 = true ∧ mayC o.b0 o.b1 o.b2 o.b3 o.b4 = true) ∧ (o.k = 5 → mayI o.s1 o.n1 = true ∧ mayI o.s2 o.n2 = true) ∧ (o.k = 6 → mayI o.s2 o.n2 = true) := by
  unfold mayO at h
  by_cases hh : mayI o.s o.n = true ∧ fitsO o = true ∧ o = onlyO o
  case neg => rw [if_neg hh] at h; exact absurd h (by decide)
  have h2 := hh.2.1
  unfold fitsO at h2
  refine ⟨fun k3 => ?_, fun k5 => ?_, fun k6 => ?_⟩
  · rw [if_neg (by omega), if_pos k3] at h2
    exact Bool.and_eq_true_iff.1 h2
  · rw [if_neg (by omega), if_neg (by omega), if_pos k5] at h2
    exact Bool.and_eq_true_iff.1 (Bool.and_eq_true_iff.1 h2).1
  · rw [if_neg (by omega), if_neg (by omega), if_neg (by omega), if_pos k6] at h2
    exact h2
theorem rcorner_p (A : Option Addr) (n c : Nat) (L : List Nat) (c5 : C5) (m : Nat) (w : World) (hl : L.length = n) (hm0 : (crB c5).length = m) (h : RdS w w.heap.size 1 A n c (rowsV f8 L)) (hn : n ≤ 800000) (hm : mayC c5.1 c5.2.1 c5.2.2.1 c5.2.2.2.1 c5.2.2.2.2 = true) :
    Calls Try.prog 46 #[.slice A n c, .agg #[.int .i64 c5.1, .int .i64 c5.2.1, .int .i64 c5.2.2.1, .int .i64 c5.2.2.2.1, .int .i64 c5.2.2.2.2]] w fun e w' => ∃ A c, e = .returned (.slice A (n + m) c) ∧ RdS w' w'.heap.size 1 A (n + m) c (rowsV f8 (L ++ crB c5)) ∧ (∀ a, A = some a → 0 < n + m → w.heap.size ≤ a.block) ∧ w'.ownsRow w.heap.size 5 1 (.slice A (n + m) c) (n + m) (rowsV f8 (L ++ crB c5)) ∧ Below w.heap.size w w' := by
  subst hl
  exact g8_parts (by rw [List.length_append, hm0]) (rcorner10_any A c L c5.1 c5.2.1 c5.2.2.1 c5.2.2.2.1 c5.2.2.2.2 w h hn hm)
theorem rtext_p (A : Option Addr) (n c : Nat) (L : List Nat) (t : ByteArray) (w : World) (hl : L.length = n) (h : RdS w w.heap.size 1 A n c (rowsV f8 L)) (hn : n ≤ 800000) (hs : t.size ≤ 10000) (m : Nat) (hm : (textB t).length = m) :
    Calls Try.prog 47 #[.slice A n c, .string t] w fun e w' => ∃ A c, e = .returned (.slice A (n + m) c) ∧ RdS w' w'.heap.size 1 A (n + m) c (rowsV f8 (L ++ textB t)) ∧ (∀ a, A = some a → 0 < n + m → w.heap.size ≤ a.block) ∧ w'.ownsRow w.heap.size 5 1 (.slice A (n + m) c) (n + m) (rowsV f8 (L ++ textB t)) ∧ Below w.heap.size w w' := by
  subst hl
  exact g8_parts (by rw [List.length_append, hm]) (rtext_any A c L t w h (by omega) hs)
theorem rnum_p (A : Option Addr) (n c : Nat) (L : List Nat) (x : Int) (w : World) (hl : L.length = n) (h : RdS w w.heap.size 1 A n c (rowsV f8 L)) (hn : n ≤ 800000) :
    Calls Try.prog 27 #[.slice A n c, .int .i64 x] w fun e w' => ∃ A c, e = .returned (.slice A (n + 8) c) ∧ RdS w' w'.heap.size 1 A (n + 8) c (rowsV f8 (L ++ be8 x)) ∧ (∀ a, A = some a → 0 < n + 8 → w.heap.size ≤ a.block) ∧ w'.ownsRow w.heap.size 5 1 (.slice A (n + 8) c) (n + 8) (rowsV f8 (L ++ be8 x)) ∧ Below w.heap.size w w' := by
  subst hl
  exact g8_parts (by rw [List.length_append, be8_len]) (rnum_any A c L x w h (by omega))
/-- A row that a call gave is a row over an elder world. -/
theorem ow_call {w V W W' : World} {N : Nat} {v : Value} {X : List Nat} (hV : Below w.heap.size w V) (hW : Ext V W) (ho : W'.ownsRow W.heap.size 5 1 v N (rowsV f8 X)) (hb : Below W.heap.size W W') : Ow w w.heap.size 5 1 v N (rowsV f8 X) W' :=
  ⟨own_lo8 ho (Nat.le_trans hV.size hW.size), bel_bl (bel_bl hV hW) hb, Nat.le_refl _, (bel_bl (bel_bl hV hW) hb).size⟩
set_option maxRecDepth 100000 in
set_option maxHeartbeats 4000000 in
theorem rput_not (A0 : Option Addr) (m0 c0 : Nat) (A : Option Addr) (n c : Nat) (L : List OpT) (w : World) (h : RdS w w.heap.size 20 A n c (rowsV opCells L)) (hn : n ≤ 1000000) (ht : ∀ o ∈ L, o.t.size ≤ maxLen) (hm : mayE L ≠ 0) :
    Calls Try.prog 28 #[.slice A0 m0 c0, .agg #[.slice A n c]] w fun e w' => e = .returned (.tuple #[.slice none 0 0, .int .i64 (mayE L)]) ∧ Below w.heap.size w w' := by
  have HM := Lib.hid (rmayedit_any A n c L (w.alloc (.cells #[.slice A n c] 28)) (h.al _) (by unfold maxLen; omega) ht)
  have hX : Whole (w.alloc (.cells #[.slice A n c] 28)) w.heap.size 28 [.slice A n c] := Whole.new_ _ _ [_]
  have c0 := hX.cell (i := 0) rfl
  obtain ⟨x, gx⟩ : ∃ x, mayE L = x := ⟨_, rfl⟩
  rw [gx] at HM hm ⊢
  have q : (x == 0) = false := beq_eq_false_iff_ne.2 hm
  have q' : (x != 0) = true := bne_iff_ne.2 hm
  clear gx hX h hm hn ht
  go_enter Try.func28, Try.ntmps28
  go_wp2_with (first
    | (go_at_call 44
       refine HM.out.mono ?_
       rintro e w2 ⟨rfl, hb⟩
       have HB := Lib.hid (below_after1 hb)
       clear hb))
  exact bodyPost_ret (v := .tuple #[.slice none 0 0, .int .i64 x]) (by simp [results, Try.results28, go_sem]) rfl ⟨rfl, HB.out⟩
set_option maxRecDepth 100000 in
set_option maxHeartbeats 16000000 in
theorem rput_yes (A0 : Option Addr) (c0 : Nat) (B : List Nat) (A : Option Addr) (n c : Nat) (L : List OpT) (w : World) (h0 : RdS w w.heap.size 1 A0 B.length c0 (rowsV f8 B)) (hB : B.length ≤ 90000) (h : RdS w w.heap.size 20 A n c (rowsV opCells L)) (ht : ∀ o ∈ L, o.t.size ≤ maxLen) (hm : mayE L = 0) :
    Calls Try.prog 28 #[.slice A0 B.length c0, .agg #[.slice A n c]] w fun e w' => ∃ A' c', e = .returned (.tuple #[.slice A' (B ++ edB L).length c', .int .i64 0]) ∧ w'.ownsRow w.heap.size 5 1 (.slice A' (B ++ edB L).length c') (B ++ edB L).length (rowsV f8 (B ++ edB L)) ∧ Below w.heap.size w w' := by
  obtain ⟨i0, hi, hz0, hz1, hz2⟩ := info_parts_ info_u8
  obtain ⟨hm1, hm2, hm3⟩ := mayE_ok hm
  have hl : L.length = n := h.rlen opCells_len' (by decide)
  have hM := fun W h => rmayedit_any A n c L W h (by unfold maxLen; omega) ht
  rw [hm] at hM
  have HM := Lib.hid hM
  have HAll := Lib.hid (mayE_all hm)
  have HPl := Lib.hid (fun k => pT_len (B := B) hm k)
  have HPn := Lib.hid (fun k o (h : L[k]? = some o) => pT_next (B := B) h)
  have HPa := Lib.hid (pT_all B L)
  have HP0 : RowKit.Hid (pT B L 0 = B ++ [n % 256]) := Lib.hid (by unfold pT; rw [hl]; rfl)
  have HRB := Lib.hid (h0.al (.cells #[.slice A n c] 28))
  have HRL := Lib.hid (h.al (.cells #[.slice A n c] 28))
  have HE : RowKit.Hid (Whole (w.alloc (.cells #[.slice A n c] 28)) w.heap.size 28 [.slice A n c]) := Lib.hid (Whole.new_ _ _ [_])
  have HB1 := Lib.hid (below1 w (.cells #[.slice A n c] 28))
  have Hn := Lib.hid hl
  obtain ⟨nB, gnB⟩ : ∃ z, B.length = z := ⟨_, rfl⟩
  rw [gnB] at hB HRB HPl ⊢
  have GnB := Lib.hid gnB
  have hu : IntKind.u8.wrap (n : Int) = ((n % 256 : Nat) : Int) := by rw [IntKind.wrap_u8]; omega
  obtain ⟨q, gq⟩ : ∃ z, n % 256 = z := ⟨_, rfl⟩
  rw [gq] at hu HP0
  have hn6 : n ≤ 6 := by omega
  clear h0 h hm hM gnB hm3 gq hm1 hm2 hl ht
  go_enter Try.func28, Try.ntmps28
  go_upto_region 1 with fail
  obtain ⟨w1, gw1⟩ : ∃ z, w.alloc (.cells #[.slice A n c] 28) = z := ⟨_, rfl⟩
  obtain ⟨g0, gg0⟩ : ∃ z, w.heap.size = z := ⟨_, rfl⟩
  rw [gw1] at HRB HRL HE HB1 ⊢
  rw [gg0] at HE ⊢
  clear gw1 gg0
  have e0 := HE.out.cell (i := 0) rfl
  go_upto_region 4 with (first
    | (go_at_call 44
       refine (HM.out _ HRL.out).mono ?_
       rintro e w2 ⟨rfl, hb2⟩
       have HRB2 := Lib.hid (HRB.out.bl hb2)
       have HRL2 := Lib.hid (HRL.out.bl hb2)
       have HE2 := Lib.hid (HE.out.bl hb2)
       have HB2 := Lib.hid (bel_bl HB1.out hb2)
       clear hb2 e0 HRB HRL HE HB1))
  have hO0 : Ow w2 w2.heap.size 5 1 (.slice (some ⟨w2.heap.size, 0, none⟩) 0 0) 0 (rowsV f8 []) (w2.alloc (.cells #[] 5)) := Ow.new_ (cs := #[]) (Below.refl _ _) (Nat.le_refl _) (Nat.le_refl _) (Nat.zero_le _) rfl
  obtain ⟨A3, c3, w3, hrun3, ho3, -⟩ := app8 23 hO0 (HRB2.out.al (.cells #[] 5)) (by omega)
  rw [Nat.zero_add, List.nil_append] at ho3
  rw [Nat.zero_add] at hrun3
  have HO3 := Lib.hid ho3
  clear hO0 ho3
  go_upto_region 5 with (first
    | (at_builtin
       refine wl_run (some 17) rfl (by rfl) (exec_append (by rfl) (by rfl) (by rfl) hrun3) ?_
       clear hrun3))
  have e0 := (HE2.out.bl HO3.out.below).cell (i := 0) rfl
  go_upto_region 6 with (first
    | (at_builtin
       refine wpList_push2 rfl (.tmp 18) (.tmp 23) _ rfl _ 5 i0 _ 1 1 Try.underlying23 hi hz0 hz1 hz2 rfl (by decide) _ _ _ rfl (by exact Ow.up HO3.out (below1 _ _)) _ (some ⟨w3.heap.size, 0, none⟩) 1 1 (rowsV f8 [q]) rfl (by exact RdS.new_ rfl (Nat.lt_succ_self _) rfl rfl) (f8_all _) (by unfold maxLen; omega) (by omega) ?_
       intro v4 w4 how4 hb4 hgr4
       rw [← rowsV_app, ← HP0.out] at how4
       obtain ⟨A4, c4, rfl, -⟩ := how4.rds
       have HO4 := Lib.hid how4
       clear how4 hb4 hgr4 e0 hu))
  go_upto_region 7 with fail
  go_loopw [7, 8] (fun v i wr => ∃ (k N : Nat) (Ak : Option Addr) (ck : Nat), k ≤ n ∧ i = .int .i64 (k : Int) ∧ v = .slice Ak N ck ∧ N = (pT B L k).length ∧ RowKit.Hid (Ow w2 w2.heap.size 5 1 (.slice Ak N ck) N (rowsV f8 (pT B L k)) wr)) (fun _ i _ => n - (intOf i).toNat)
  case atStart => exact ⟨0, nB + 1, A4, c4, Nat.zero_le _, rfl, rfl, by rw [HP0.out, List.length_append, GnB.out]; rfl, HO4⟩
  case round =>
    clear HO4
    obtain ⟨k, N, Ak, ck, hk, rfl, rfl, hN, hin⟩ := hrel
    have e0 := (HE2.out.bl hin.out.below).cell (i := 0) rfl
    by_cases hlt : k < n
    · have hi1 : (k : Int) < (n : Int) := by omega
      have hk0 : L[k]? = some (L[k]'(by have := Hn.out; omega)) := List.getElem?_eq_getElem _
      obtain ⟨o, go⟩ : ∃ o, L[k]'(by have := Hn.out; omega) = o := ⟨_, rfl⟩
      rw [go] at hk0
      have HNx := Lib.hid (HPn.out k o hk0)
      have HMo := Lib.hid (HAll.out o (List.mem_of_getElem? hk0))
      have HRd2 := Lib.hid (HRL2.out.up hin.out.below hin.out.below.size)
      obtain ⟨b, off, rfl, hbB, hpl⟩ := HRd2.out.place opCells_len' (by decide) (by omega)
      have HP := Lib.hid (hpl k o hk0)
      have hNb : N ≤ nB + 139 := by rw [hN]; exact HPl.out k
      have HN0 := Lib.hid hN
      clear go hk0 hpl hbB hN
      go_upto_region 9 with fail
      refine wp_region_lit ?_
      refine wl_read (v := ?_) (some 32) rfl (by rfl) ?_ ?_
      rotate_left
      · go_simp; (try with_reducible rfl)
      simp only [Act.put, stA_, st0_, st1_]
      refine wl_read (v := ?_) (some 33) rfl (by rfl) ?_ ?_
      rotate_left
      · go_simp; (try with_reducible rfl)
      simp only [Act.put, stA_, st0_, st1_]
      refine wl_read (v := ?_) (some 34) rfl (by rfl) ?_ ?_
      rotate_left
      · go_simp; (try with_reducible rfl)
      simp only [Act.put, stA_, st0_, st1_]
      refine wl_read (v := ?_) (some 35) rfl (by rfl) ?_ ?_
      rotate_left
      · go_simp; (try with_reducible rfl)
      simp only [Act.put, stA_, st0_, st1_]
      refine wl_load_at (some 36) rfl (by rfl) 53 (.tmp 35) rfl ⟨b, off + k * 20, none⟩ rfl (opCells o) _ HP.out Try.underlying53 rfl (by kernel_rfl) ?_
      simp only [Act.put, stA_, st0_, st1_]
      refine wl_new 9 rfl rfl rfl 53 (.tmp 36) rfl rfl #[.int .i64 0, .int .i64 0, .int .i64 0, .int .i64 0, .int .i64 0, .int .i64 0, .int .i64 0, .int .i64 0, .int .i64 0, .int .i64 0, .int .i64 0, .int .i64 0, .int .i64 0, .int .i64 0, .int .i64 0, .int .i64 0, .int .i64 0, .bool false, .string ⟨#[]⟩, .int .i64 0] ?_ (opCells o).toArray (by simp) rfl (by kernel_rfl) rfl (opCells_arr _) ?_
      · go_simp; (try with_reducible rfl)
      simp only [Act.put, stA_, st0_, st1_]
      have HI0 := Lib.hid (hin.out.up (below1 wr (.cells (opCells o).toArray 53)))
      have HX0 : RowKit.Hid (Whole (wr.alloc (.cells (opCells o).toArray 53)) wr.heap.size 53 (opCells o)) := Lib.hid (Whole.new_ _ _ _)
      obtain ⟨W0, gW0⟩ : ∃ x, wr.alloc (.cells (opCells o).toArray 53) = x := ⟨_, rfl⟩
      obtain ⟨g2, gg2⟩ : ∃ x, wr.heap.size = x := ⟨_, rfl⟩
      rw [gW0] at HI0 HX0 ⊢
      rw [gg2] at HX0 ⊢
      clear gW0 gg2 hin HRd2 HP e0
      have hku : IntKind.u8.wrap o.k = (((o.k % 256).toNat : Nat) : Int) := by rw [IntKind.wrap_u8]; omega
      obtain ⟨kb, gkb⟩ : ∃ z, (o.k % 256).toNat = z := ⟨_, rfl⟩
      rw [gkb] at hku HNx
      clear gkb
      have hmO := mayO_head HMo.out
      have HId := Lib.hid hmO.1
      have hts := hmO.2.2.2
      clear hmO
      obtain ⟨X0, gX0⟩ : ∃ z, pT B L k = z := ⟨_, rfl⟩
      rw [gX0] at HI0 HNx HN0
      clear gX0
      go_upto_region 10 with fail
      have HD : RowKit.Hid (Ext W0 W0.drew) := Lib.hid (below_drewN W0.heap.size W0 1)
      have Hne : RowKit.Hid (some g2 ≠ (Value.slice Ak N ck).ownBlock) := Lib.hid (own_ne HI0.out.own HX0.out (by decide))
      have lC0 : ∀ w', Kept (fun i => some i = (Value.slice Ak N ck).ownBlock) W0.drew w' → w'.cell? ⟨g2, 0, none⟩ = some (.int .i64 o.k) := fun w' h => h.cell (HX0.out.dr.cell (i := 0) rfl) Hne.out
      have lC1 : ∀ w', Kept (fun i => some i = (Value.slice Ak N ck).ownBlock) W0.drew w' → w'.cell? ⟨g2, 1, none⟩ = some (.int .i64 o.s) := fun w' h => h.cell (HX0.out.dr.cell (i := 1) rfl) Hne.out
      have lC2 : ∀ w', Kept (fun i => some i = (Value.slice Ak N ck).ownBlock) W0.drew w' → w'.cell? ⟨g2, 2, none⟩ = some (.int .i64 o.n) := fun w' h => h.cell (HX0.out.dr.cell (i := 2) rfl) Hne.out
      refine wp_region_reg (fun i => some i = (Value.slice Ak N ck).ownBlock) (by kernel_rfl) ?_
      refine opR_ 0 37 (v := ?_) ?_ ?_; rotate_left
      · intro w' hw'; go_simp; (try with_reducible rfl)
      simp only [st0_, st1_]
      refine opR_ 1 38 (v := ?_) ?_ ?_; rotate_left
      · intro w' hw'; go_simp; (try with_reducible rfl)
      simp only [st0_, st1_]
      refine opR_ 2 39 (v := ?_) ?_ ?_; rotate_left
      · intro w' hw'; go_simp; (try with_reducible rfl)
      simp only [st0_, st1_]
      refine opR_ 3 40 (v := ?_) ?_ ?_; rotate_left
      · intro w' hw'; go_simp; (try with_reducible rfl)
      simp only [st0_, st1_]
      refine opR_ 6 43 (v := ?_) ?_ ?_; rotate_left
      · intro w' hw'; go_simp; (try with_reducible rfl)
      simp only [st0_, st1_]
      refine opR_ 7 44 (v := ?_) ?_ ?_; rotate_left
      · intro w' hw'; go_simp; (try with_reducible rfl)
      simp only [st0_, st1_]
      apply wpR_run 4 (some 41)
      · rfl
      · rfl
      · kernel_rfl
      · rfl
      intro w' hw'
      refine ⟨.slice (some ⟨w'.heap.size, 0, none⟩) 1 1, w'.alloc (.cells #[.int .u8 (kb : Int)] 5), exec_buildSlice 23 5 1 #[(0, .tmp 40)] (by rfl) Try.underlying23 _ (by kernel_rfl), Kept.of_below (below1 _ _), ?_⟩
      have hE : Ext W0 (w'.alloc (.cells #[.int .u8 (kb : Int)] 5)) := Ext.trans (Ext.trans HD.out hw') (below1 _ _)
      have HIa := Lib.hid (HI0.out.up hE)
      have HXa := Lib.hid (HX0.out.bl hE)
      have HLa := Lib.hid (one8 w' kb)
      have hEa : Ext W0 (w'.alloc (.cells #[.int .u8 (kb : Int)] 5)) := hE
      have HEa := Lib.hid hEa
      have kk : Kept (fun i => some i = (Value.slice Ak N ck).ownBlock) W0.drew (w'.alloc (.cells #[.int .u8 (kb : Int)] 5)) := (Kept.of_ext hw').trans (Kept.of_below (below1 _ _))
      replace lC0 := fun w4 (h : Kept (fun i => some i = (Value.slice Ak N ck).ownBlock) ((w'.alloc (.cells #[.int .u8 (kb : Int)] 5))) w4) => lC0 w4 (kk.trans h)
      replace lC1 := fun w4 (h : Kept (fun i => some i = (Value.slice Ak N ck).ownBlock) ((w'.alloc (.cells #[.int .u8 (kb : Int)] 5))) w4) => lC1 w4 (kk.trans h)
      replace lC2 := fun w4 (h : Kept (fun i => some i = (Value.slice Ak N ck).ownBlock) ((w'.alloc (.cells #[.int .u8 (kb : Int)] 5))) w4) => lC2 w4 (kk.trans h)
      obtain ⟨wa, gwa⟩ : ∃ z, (w'.alloc (.cells #[.int .u8 (kb : Int)] 5)) = z := ⟨_, rfl⟩
      obtain ⟨ga, gga⟩ : ∃ z, w'.heap.size = z := ⟨_, rfl⟩
      rw [gwa] at HIa HXa HLa HEa lC0 lC1 lC2 ⊢
      rw [gga] at HLa ⊢
      clear hw' hE hEa kk gwa gga
      simp only [Act.put, stA_, st0_, st1_]
      apply wpR_run 5 (some 42)
      · rfl
      · rfl
      · kernel_rfl
      · rfl
      intro w' hw'
      obtain ⟨vv, w'', hrun, ho, hb, hg, hbk⟩ := Ow.app2 (P := Try.prog) 23 23 5 i0 _ 1 1 _ Try.underlying23 hi hz0 hz1 hz2 rfl (by decide) _ _ _ (HIa.out.up hw') _ _ _ _ _ (HLa.out.bl hw') (f8_all [kb]) (by unfold maxLen; omega) (by omega)
      refine ⟨vv, w'', exec_append (by rfl) (by rfl) (by rfl) hrun, kept_grow hg (fun i e => e), ?_⟩
      rw [← rowsV_app] at ho
      obtain ⟨Ab, cb, rfl, hrb⟩ := ho.rds
      have HIb := Lib.hid ho
      have HXb := Lib.hid (Whole.grown (HXa.out.bl hw') hg Hne.out)
      have HRb := Lib.hid hrb
      have kk : Kept (fun i => some i = (Value.slice Ak N ck).ownBlock) wa w'' := (Kept.of_ext hw').trans (kept_grow hg (fun i e => e))
      replace lC0 := fun w4 (h : Kept (fun i => some i = (Value.slice Ak N ck).ownBlock) (w'') w4) => lC0 w4 (kk.trans h)
      replace lC1 := fun w4 (h : Kept (fun i => some i = (Value.slice Ak N ck).ownBlock) (w'') w4) => lC1 w4 (kk.trans h)
      replace lC2 := fun w4 (h : Kept (fun i => some i = (Value.slice Ak N ck).ownBlock) (w'') w4) => lC2 w4 (kk.trans h)
      obtain ⟨wb, gwb⟩ : ∃ z, w'' = z := ⟨_, rfl⟩
      rw [gwb] at HIb HXb HRb lC0 lC1 lC2 ⊢
      clear hw' kk hrun ho hb hg hbk hrb gwb HIa HXa HLa
      simp only [Act.put, stA_, st0_, st1_]
      apply wpR_call 8 (some 45)
      · rfl
      · rfl
      · kernel_rfl
      · rfl
      · intro w'; go_simp; first | done | exact ⟨rfl, rfl⟩ | with_reducible rfl
      intro w' hw'
      refine (ridput_4 Ab (N + 1) cb (X0 ++ [kb]) o.s o.n w' (by rw [List.length_append, ← HN0.out]; rfl) (HRb.out.bl hw') (by omega) HId.out).mono ?_
      rintro e wc ⟨A1, c1, rfl, -, -, h4, h5⟩
      refine ⟨_, rfl, Kept.of_below h5, ?_⟩
      have HIc := Lib.hid (ow_call HIb.out.below hw' h4 h5)
      have HXc := Lib.hid (HXb.out.bl (Ext.trans hw' h5))
      clear hw' h4 h5 lC0 lC1 lC2 HIb HXb HRb HEa
      simp only [Act.put, stA_, st0_, st1_]
      refine opR_ 9 7 (v := ?_) ?_ ?_; rotate_left
      · intro w' hw'; go_simp; (try with_reducible rfl)
      simp only [st0_, st1_]
      refine wpR_done (by kernel_rfl) ?_ _
      intro wE hwE
      have HI1 := Lib.hid (HIc.out.up hwE)
      have HX1 := Lib.hid (HXc.out.bl hwE)
      obtain ⟨W1, gW1⟩ : ∃ z, wE = z := ⟨_, rfl⟩
      rw [gW1] at HI1 HX1 ⊢
      clear hwE gW1 HIc HXc HD Hne HI0 HX0
      have HN1 : RowKit.Hid ((X0 ++ [kb] ++ idB (o.s, o.n)).length = N + 1 + 4) := Lib.hid (by rw [List.length_append, List.length_append, ← HN0.out]; rfl)
      obtain ⟨X1, gX1⟩ : ∃ z, X0 ++ [kb] ++ idB (o.s, o.n) = z := ⟨_, rfl⟩
      obtain ⟨N1, gN1⟩ : ∃ z, N + 1 + 4 = z := ⟨_, rfl⟩
      rw [gX1] at HI1 HNx HN1
      rw [gN1] at HI1 HN1 ⊢
      have hN1 : N1 ≤ nB + 144 := by omega
      clear gX1 gN1 hku hNb HN0
      have l0 := HX1.out.cell (i := 0) rfl
      by_cases k3 : o.k = 3
      · have q3 : (o.k == 3) = true := by rw [k3]; rfl
        have HFd := Lib.hid (fdB3 k3)
        have hC := (mayO_parts HMo.out).1 k3
        have HC1 := Lib.hid hC.1
        have HC2 := Lib.hid hC.2
        obtain ⟨na, gna, na1, na2⟩ := crB_len o.ca
        obtain ⟨nb, gnb, nb1, nb2⟩ := crB_len o.cb
        have Gna := Lib.hid gna
        have Gnb := Lib.hid gnb
        clear k3 hC gna gnb
        go_upto_region 13 with fail
        clear l0 q3
        have HD : RowKit.Hid (Ext W1 W1.drew) := Lib.hid (below_drewN W1.heap.size W1 1)
        have HR1 := Lib.hid (own_rds HI1.out.own)
        have lC7 : ∀ w', Kept Nil_ W1.drew w' → w'.cell? ⟨g2, 7, none⟩ = some (.int .i64 o.a0) := fun w' h => h.nil_cell (HX1.out.dr.cell (i := 7) rfl)
        have lC8 : ∀ w', Kept Nil_ W1.drew w' → w'.cell? ⟨g2, 8, none⟩ = some (.int .i64 o.a1) := fun w' h => h.nil_cell (HX1.out.dr.cell (i := 8) rfl)
        have lC9 : ∀ w', Kept Nil_ W1.drew w' → w'.cell? ⟨g2, 9, none⟩ = some (.int .i64 o.a2) := fun w' h => h.nil_cell (HX1.out.dr.cell (i := 9) rfl)
        have lC10 : ∀ w', Kept Nil_ W1.drew w' → w'.cell? ⟨g2, 10, none⟩ = some (.int .i64 o.a3) := fun w' h => h.nil_cell (HX1.out.dr.cell (i := 10) rfl)
        have lC11 : ∀ w', Kept Nil_ W1.drew w' → w'.cell? ⟨g2, 11, none⟩ = some (.int .i64 o.a4) := fun w' h => h.nil_cell (HX1.out.dr.cell (i := 11) rfl)
        have lC12 : ∀ w', Kept Nil_ W1.drew w' → w'.cell? ⟨g2, 12, none⟩ = some (.int .i64 o.b0) := fun w' h => h.nil_cell (HX1.out.dr.cell (i := 12) rfl)
        have lC13 : ∀ w', Kept Nil_ W1.drew w' → w'.cell? ⟨g2, 13, none⟩ = some (.int .i64 o.b1) := fun w' h => h.nil_cell (HX1.out.dr.cell (i := 13) rfl)
        have lC14 : ∀ w', Kept Nil_ W1.drew w' → w'.cell? ⟨g2, 14, none⟩ = some (.int .i64 o.b2) := fun w' h => h.nil_cell (HX1.out.dr.cell (i := 14) rfl)
        have lC15 : ∀ w', Kept Nil_ W1.drew w' → w'.cell? ⟨g2, 15, none⟩ = some (.int .i64 o.b3) := fun w' h => h.nil_cell (HX1.out.dr.cell (i := 15) rfl)
        have lC16 : ∀ w', Kept Nil_ W1.drew w' → w'.cell? ⟨g2, 16, none⟩ = some (.int .i64 o.b4) := fun w' h => h.nil_cell (HX1.out.dr.cell (i := 16) rfl)
        refine wp_region_reg (Nil_) (by kernel_rfl) ?_
        refine opR_ 0 50 (v := ?_) ?_ ?_; rotate_left
        · intro w' hw'; go_simp; (try with_reducible rfl)
        simp only [st0_, st1_]
        refine opR_ 1 51 (v := ?_) ?_ ?_; rotate_left
        · intro w' hw'; go_simp; (try with_reducible rfl)
        simp only [st0_, st1_]
        refine opR_ 2 52 (v := ?_) ?_ ?_; rotate_left
        · intro w' hw'; go_simp; (try with_reducible rfl)
        simp only [st0_, st1_]
        refine opR_ 4 54 (v := ?_) ?_ ?_; rotate_left
        · intro w' hw'; go_simp; (try with_reducible rfl)
        simp only [st0_, st1_]
        refine opR_ 5 55 (v := ?_) ?_ ?_; rotate_left
        · intro w' hw'; go_simp; (try with_reducible rfl)
        simp only [st0_, st1_]
        apply wpR_call 3 (some 53)
        · rfl
        · rfl
        · kernel_rfl
        · rfl
        · intro w'; go_simp; first | done | exact ⟨rfl, rfl⟩ | with_reducible rfl
        intro w' hw'
        have hE := Ext.trans HD.out hw'
        refine (rcorner_p A1 N1 c1 X1 o.ca na w' HN1.out Gna.out (HR1.out.bl hE) (by omega) HC1.out).mono ?_
        rintro e wa ⟨Aa, ca, rfl, hra, -, -, hb⟩
        refine ⟨_, rfl, Kept.of_below hb, ?_⟩
        have HRa := Lib.hid hra
        have HEa := Lib.hid (Ext.trans hE hb)
        have kk : Kept Nil_ W1.drew wa := (Kept.of_ext hw').trans (Kept.of_below hb)
        replace lC7 := fun w4 (h : Kept Nil_ (wa) w4) => lC7 w4 (kk.trans h)
        replace lC8 := fun w4 (h : Kept Nil_ (wa) w4) => lC8 w4 (kk.trans h)
        replace lC9 := fun w4 (h : Kept Nil_ (wa) w4) => lC9 w4 (kk.trans h)
        replace lC10 := fun w4 (h : Kept Nil_ (wa) w4) => lC10 w4 (kk.trans h)
        replace lC11 := fun w4 (h : Kept Nil_ (wa) w4) => lC11 w4 (kk.trans h)
        replace lC12 := fun w4 (h : Kept Nil_ (wa) w4) => lC12 w4 (kk.trans h)
        replace lC13 := fun w4 (h : Kept Nil_ (wa) w4) => lC13 w4 (kk.trans h)
        replace lC14 := fun w4 (h : Kept Nil_ (wa) w4) => lC14 w4 (kk.trans h)
        replace lC15 := fun w4 (h : Kept Nil_ (wa) w4) => lC15 w4 (kk.trans h)
        replace lC16 := fun w4 (h : Kept Nil_ (wa) w4) => lC16 w4 (kk.trans h)
        clear hw' hE hra hb kk
        simp only [Act.put, stA_, st0_, st1_]
        apply wpR_call 6 (some 56)
        · rfl
        · rfl
        · kernel_rfl
        · rfl
        · intro w'; go_simp; first | done | exact ⟨rfl, rfl⟩ | with_reducible rfl
        intro w' hw'
        refine (rcorner_p Aa (N1 + na) ca (X1 ++ crB o.ca) o.cb nb w' (by rw [List.length_append, HN1.out, Gna.out]) Gnb.out (HRa.out.bl hw') (by omega) HC2.out).mono ?_
        rintro e wb ⟨Ab, cb, rfl, -, -, h4, h5⟩
        refine ⟨_, rfl, Kept.of_below h5, ?_⟩
        have HIc := Lib.hid (ow_call HI1.out.below (Ext.trans HEa.out hw') h4 h5)
        clear hw' h4 h5 HRa HEa lC7 lC8 lC9 lC10 lC11 lC12 lC13 lC14 lC15 lC16
        simp only [Act.put, stA_, st0_, st1_]
        refine opR_ 7 7 (v := ?_) ?_ ?_; rotate_left
        · intro w' hw'; go_simp; (try with_reducible rfl)
        simp only [st0_, st1_]
        refine wpR_done (by kernel_rfl) ?_ _
        intro wE hwE
        have HI2 := Lib.hid (HIc.out.up hwE)
        clear hwE HIc HI1 HX1
        go_wp2
        go_roundw
        case rel => exact ⟨k + 1, N1 + na + nb, Ab, cb, by omega, by go_num, rfl, by rw [HNx.out, HFd.out]; rw [List.length_append, List.length_append, HN1.out, Gna.out, Gnb.out]; omega, Lib.hid (by have := HI2.out; rw [HNx.out, HFd.out]; rw [← List.append_assoc]; exact this)⟩
        case measure => simp [intOf]; omega
      have q3 : (o.k == 3) = false := by simpa using k3
      by_cases k5 : o.k = 5
      · have q5 : (o.k == 5) = true := by rw [k5]; rfl
        have HFd := Lib.hid (fdB5 k5)
        have hC := (mayO_parts HMo.out).2.1 k5
        have HC1 := Lib.hid hC.1
        have HC2 := Lib.hid hC.2
        clear k5 k3 hC
        have hqu : IntKind.u8.wrap o.m = (((o.m % 256).toNat : Nat) : Int) := by rw [IntKind.wrap_u8]; omega
        obtain ⟨q2, gq2⟩ : ∃ z, (o.m % 256).toNat = z := ⟨_, rfl⟩
        rw [gq2] at hqu HFd
        clear gq2
        go_upto_region 15 with fail
        clear l0 q3 q5
        obtain ⟨B0, hB0⟩ : ∃ x, W1.heap.size = x := ⟨_, rfl⟩
        have HB0 := Lib.hid hB0
        have HG1 : RowKit.Hid (g2 < B0) := Lib.hid (by have := HX1.out.lt; omega)
        have EX9 : RowKit.Hid (Ext W1 W1.drew) := Lib.hid ((Below.refl _ _).drew)
        have HR1 := Lib.hid (own_rds HI1.out.own)
        have lC3 : ∀ w', Kept (From_ B0) W1.drew w' → w'.cell? ⟨g2, 3, none⟩ = some (.int .i64 o.s1) := fun w' h => h.from_cell HG1.out (EX9.out.cell (HX1.out.cell (i := 3) rfl))
        have lC4 : ∀ w', Kept (From_ B0) W1.drew w' → w'.cell? ⟨g2, 4, none⟩ = some (.int .i64 o.n1) := fun w' h => h.from_cell HG1.out (EX9.out.cell (HX1.out.cell (i := 4) rfl))
        have lC5 : ∀ w', Kept (From_ B0) W1.drew w' → w'.cell? ⟨g2, 5, none⟩ = some (.int .i64 o.s2) := fun w' h => h.from_cell HG1.out (EX9.out.cell (HX1.out.cell (i := 5) rfl))
        have lC6 : ∀ w', Kept (From_ B0) W1.drew w' → w'.cell? ⟨g2, 6, none⟩ = some (.int .i64 o.n2) := fun w' h => h.from_cell HG1.out (EX9.out.cell (HX1.out.cell (i := 6) rfl))
        have lC19 : ∀ w', Kept (From_ B0) W1.drew w' → w'.cell? ⟨g2, 19, none⟩ = some (.int .i64 o.m) := fun w' h => h.from_cell HG1.out (EX9.out.cell (HX1.out.cell (i := 19) rfl))
        clear hB0
        refine wp_region_reg (From_ B0) (by kernel_rfl) ?_
        apply wpR_next 0 (some 59)
        · rfl
        · rfl
        · kernel_rfl
        · kernel_rfl
        · kernel_rfl
        · first | exact fun _ _ _ _ h => Exit.noConfusion h.1 | exact fun _ _ _ _ h => h
        apply Exists.intro
        apply And.intro
        · apply yr_run; rfl; intro w' hw'; go_simp; (try with_reducible rfl)
        simp only [Act.put, stA_, st0_, st1_]
        apply wpR_next 1 (some 60)
        · rfl
        · rfl
        · kernel_rfl
        · kernel_rfl
        · kernel_rfl
        · first | exact fun _ _ _ _ h => Exit.noConfusion h.1 | exact fun _ _ _ _ h => h
        apply Exists.intro
        apply And.intro
        · apply yr_run; rfl; intro w' hw'; go_simp; (try with_reducible rfl)
        simp only [Act.put, stA_, st0_, st1_]
        apply wpR_next 2 (some 61)
        · rfl
        · rfl
        · kernel_rfl
        · kernel_rfl
        · kernel_rfl
        · first | exact fun _ _ _ _ h => Exit.noConfusion h.1 | exact fun _ _ _ _ h => h
        apply Exists.intro
        apply And.intro
        · apply yr_run; rfl; intro w' hw'; go_simp; (try with_reducible rfl)
        simp only [Act.put, stA_, st0_, st1_]
        apply wpR_next 4 (some 63)
        · rfl
        · rfl
        · kernel_rfl
        · kernel_rfl
        · kernel_rfl
        · first | exact fun _ _ _ _ h => Exit.noConfusion h.1 | exact fun _ _ _ _ h => h
        apply Exists.intro
        apply And.intro
        · apply yr_run; rfl; intro w' hw'; go_simp; (try with_reducible rfl)
        simp only [Act.put, stA_, st0_, st1_]
        apply wpR_next 5 (some 64)
        · rfl
        · rfl
        · kernel_rfl
        · kernel_rfl
        · kernel_rfl
        · first | exact fun _ _ _ _ h => Exit.noConfusion h.1 | exact fun _ _ _ _ h => h
        apply Exists.intro
        apply And.intro
        · apply yr_run; rfl; intro w' hw'; go_simp; (try with_reducible rfl)
        simp only [Act.put, stA_, st0_, st1_]
        apply wpR_next 7 (some 66)
        · rfl
        · rfl
        · kernel_rfl
        · kernel_rfl
        · kernel_rfl
        · first | exact fun _ _ _ _ h => Exit.noConfusion h.1 | exact fun _ _ _ _ h => h
        apply Exists.intro
        apply And.intro
        · apply yr_run; rfl; intro w' hw'; go_simp; (try with_reducible rfl)
        simp only [Act.put, stA_, st0_, st1_]
        apply wpR_next 8 (some 67)
        · rfl
        · rfl
        · kernel_rfl
        · kernel_rfl
        · kernel_rfl
        · first | exact fun _ _ _ _ h => Exit.noConfusion h.1 | exact fun _ _ _ _ h => h
        apply Exists.intro
        apply And.intro
        · apply yr_run; rfl; intro w' hw'; go_simp; (try with_reducible rfl)
        simp only [Act.put, stA_, st0_, st1_]
        apply wpR_next 9 (some 68)
        · rfl
        · rfl
        · kernel_rfl
        · kernel_rfl
        · kernel_rfl
        · first | exact fun _ _ _ _ h => Exit.noConfusion h.1 | exact fun _ _ _ _ h => h
        apply Exists.intro
        apply And.intro
        · apply yr_run; rfl; intro w' hw'; go_simp; (try with_reducible rfl)
        simp only [Act.put, stA_, st0_, st1_]
        refine wpR_two 3 10 (by kernel_rfl) ?_ ?_
        · apply at_call 3 (some 62)
          · rfl
          · rfl
          · rfl
          · intro w'; go_simp; first | done | exact ⟨rfl, rfl⟩ | with_reducible rfl
          intro w' hw'
          have E_1_2 := Lib.hid (Ext.trans EX9.out (hw'))
          refine (ridput_4 A1 N1 c1 X1 o.s1 o.n1 _ HN1.out (HR1.out.bl E_1_2.out) (by omega) HC1.out).mono ?_
          rintro e w'' ⟨A3, c3, rfl, hr3, hn3, -, hb⟩
          have E_1_3 := Lib.hid (Ext.trans E_1_2.out (hb))
          have UM_1_1 := Lib.hid hr3
          clear hr3 hn3
          have hkk : Kept (From_ B0) W1.drew w'' := (Kept.of_ext hw').trans (Kept.of_below hb)
          refine ⟨_, rfl, Kept.of_below hb, ?_⟩
          obtain ⟨z1_1, gz1_1⟩ : ∃ x, w'' = x := ⟨_, rfl⟩
          rw [gz1_1] at UM_1_1 E_1_3 hkk ⊢
          have ldt1_4 := fun w'' (h : Kept (From_ B0) z1_1 w'') => lC3 w'' (hkk.trans h)
          have ldt1_5 := fun w'' (h : Kept (From_ B0) z1_1 w'') => lC4 w'' (hkk.trans h)
          have ldt1_6 := fun w'' (h : Kept (From_ B0) z1_1 w'') => lC5 w'' (hkk.trans h)
          have ldt1_7 := fun w'' (h : Kept (From_ B0) z1_1 w'') => lC6 w'' (hkk.trans h)
          have ldt1_8 := fun w'' (h : Kept (From_ B0) z1_1 w'') => lC19 w'' (hkk.trans h)
          clear lC3 lC4 lC5 lC6 lC19
          clear hkk hb gz1_1 hw'
          try simp only [Act.put, stA_, st0_, st1_]
          refine wpR_two 6 10 (by kernel_rfl) ?_ ?_
          · apply at_call 6 (some 65)
            · rfl
            · rfl
            · rfl
            · intro w'; go_simp; first | done | exact ⟨rfl, rfl⟩ | with_reducible rfl
            intro w' hw'
            have UM_2_10 := Lib.hid (RdS.bl UM_1_1.out (hw'))
            have E_2_10 := Lib.hid (Ext.trans E_1_3.out (hw'))
            refine (ridput_4 A3 (N1 + 4) c3 (X1 ++ idB (o.s1, o.n1)) o.s2 o.n2 _ (by rw [List.length_append, HN1.out]; rfl) UM_2_10.out (by omega) HC2.out).mono ?_
            rintro e w'' ⟨AA2_9, cc2_9, rfl, -, -, hown, hb⟩
            have NE_R_M_2_9 : RowKit.Hid (∀ a, A3 = some a → 0 < (N1 + 4) → some a.block ≠ (Value.slice AA2_9 (N1 + 4 + 4) cc2_9).ownBlock) := Lib.hid (fun a ha hn e => by have h1 := (hown.lt _ e.symm).1; have h2 := UM_2_10.out.low a ha hn; omega)
            have UM_2_11 := Lib.hid (RdS.bl UM_2_10.out (hb))
            have E_2_11 := Lib.hid (Ext.trans E_2_10.out (hb))
            have RR_n2_9 : RowKit.Hid (Ow W1 B0 5 1 (.slice AA2_9 (N1 + 4 + 4) cc2_9) (N1 + 4 + 4) (rowsV f8 (X1 ++ idB (o.s1, o.n1) ++ idB (o.s2, o.n2))) w'') := Lib.hid ⟨own_lo8 hown (by have h1 := E_2_10.out.size; have h2 := HB0.out; omega), E_2_11.out, Nat.le_of_eq HB0.out, by have h1 := E_2_11.out.size; have h2 := HB0.out; omega⟩
            have hkk : Kept (From_ B0) z1_1 w'' := (Kept.of_ext hw').trans (Kept.of_below hb)
            refine ⟨_, rfl, Kept.of_below hb, ?_⟩
            obtain ⟨z2_9, gz2_9⟩ : ∃ x, w'' = x := ⟨_, rfl⟩
            rw [gz2_9] at RR_n2_9 UM_2_11 E_2_11 hkk ⊢
            have ldt2_12 := fun w'' (h : Kept (From_ B0) z2_9 w'') => ldt1_4 w'' (hkk.trans h)
            have ldt2_13 := fun w'' (h : Kept (From_ B0) z2_9 w'') => ldt1_5 w'' (hkk.trans h)
            have ldt2_14 := fun w'' (h : Kept (From_ B0) z2_9 w'') => ldt1_6 w'' (hkk.trans h)
            have ldt2_15 := fun w'' (h : Kept (From_ B0) z2_9 w'') => ldt1_7 w'' (hkk.trans h)
            have ldt2_16 := fun w'' (h : Kept (From_ B0) z2_9 w'') => ldt1_8 w'' (hkk.trans h)
            clear ldt1_4 ldt1_5 ldt1_6 ldt1_7 ldt1_8
            clear hkk hown hb gz2_9 hw'
            try simp only [Act.put, stA_, st0_, st1_]
            refine wpR_one 10 (by kernel_rfl) ?_
            apply at_run 10 (some 69)
            · rfl
            · rfl
            · rfl
            intro w' hw'
            have RR_2_18 := Lib.hid (Ow.up RR_n2_9.out (hw'))
            have UM_2_18 := Lib.hid (RdS.bl UM_2_11.out (hw'))
            have E_2_18 := Lib.hid (Ext.trans E_2_11.out (hw'))
            refine ⟨.slice (some ⟨w'.heap.size, 0, none⟩) 1 1, w'.alloc (.cells (#[.int .u8 (q2 : Int)]) 5), exec_buildSlice 23 5 1 #[(0, .tmp 68)] (by rfl) Try.underlying23 _ (by kernel_rfl), Kept.of_below (below1 _ _), ?_⟩
            have NE_R_S_2_17 : RowKit.Hid (some w'.heap.size ≠ _) := Lib.hid (Ow.ne_ RR_2_18.out (Nat.le_refl _))
            have RR_2_19 := Lib.hid (Ow.up RR_2_18.out (below1 w' (.cells (#[.int .u8 (q2 : Int)]) 5)))
            have UM_2_19 := Lib.hid (RdS.bl UM_2_18.out (below1 w' (.cells (#[.int .u8 (q2 : Int)]) 5)))
            have E_2_19 := Lib.hid (Ext.trans E_2_18.out (below1 w' (.cells (#[.int .u8 (q2 : Int)]) 5)))
            have US_n2_17 : RowKit.Hid (RdS (w'.alloc (.cells (#[.int .u8 (q2 : Int)]) 5)) (w'.alloc (.cells (#[.int .u8 (q2 : Int)]) 5)).heap.size 1 (some ⟨w'.heap.size, 0, none⟩) 1 1 (rowsV f8 [q2])) := Lib.hid (RdS.of_whole8 (Whole.new_ _ _ _) rfl)
            have hkk : Kept (From_ B0) z2_9 (w'.alloc (.cells (#[.int .u8 (q2 : Int)]) 5)) := (Kept.of_ext hw').trans (Kept.of_below (below1 _ _))
            obtain ⟨v2_20, gv2_20⟩ : ∃ x, w'.alloc (.cells (#[.int .u8 (q2 : Int)]) 5) = x := ⟨_, rfl⟩
            rw [gv2_20] at RR_2_19 UM_2_19 US_n2_17 E_2_19 hkk ⊢
            have ldt2_21 := fun w'' (h : Kept (From_ B0) v2_20 w'') => ldt2_12 w'' (hkk.trans h)
            have ldt2_22 := fun w'' (h : Kept (From_ B0) v2_20 w'') => ldt2_13 w'' (hkk.trans h)
            have ldt2_23 := fun w'' (h : Kept (From_ B0) v2_20 w'') => ldt2_14 w'' (hkk.trans h)
            have ldt2_24 := fun w'' (h : Kept (From_ B0) v2_20 w'') => ldt2_15 w'' (hkk.trans h)
            have ldt2_25 := fun w'' (h : Kept (From_ B0) v2_20 w'') => ldt2_16 w'' (hkk.trans h)
            clear ldt2_12 ldt2_13 ldt2_14 ldt2_15 ldt2_16
            clear gv2_20 hkk
            obtain ⟨g2_17, gg2_17⟩ : ∃ x, w'.heap.size = x := ⟨_, rfl⟩
            rw [gg2_17] at US_n2_17 NE_R_S_2_17 ⊢
            clear gg2_17 hw'
            have NF_NE_R_S_2_17 : RowKit.Hid (∀ a, (some (⟨g2_17, 0, none⟩ : Addr)) = some a → 0 < 1 → some a.block ≠ _) := Lib.hid (fun a ha _ => by obtain rfl := Option.some.inj ha; exact NE_R_S_2_17.out)
            try simp only [Act.put, stA_, st0_, st1_]
            refine wpR_one 11 (by kernel_rfl) ?_
            apply at_run 11 (some 70)
            · rfl
            · rfl
            · rfl
            intro w' hw'
            have RR_2_27 := Lib.hid (Ow.up RR_2_19.out (hw'))
            have UM_2_27 := Lib.hid (RdS.bl UM_2_19.out (hw'))
            have US_2_27 := Lib.hid (RdS.bl US_n2_17.out (hw'))
            have E_2_27 := Lib.hid (Ext.trans E_2_19.out (hw'))
            obtain ⟨vv, w'', hrun, ho, hb, hg, hbk⟩ := Ow.app2 (P := Try.prog) 23 23 5 i0 _ 1 1 _ Try.underlying23 hi hz0 hz1 hz2 rfl (by decide) _ _ _ RR_2_27.out _ _ _ _ _ (US_2_27.out) (f8_all [q2]) (by unfold maxLen; omega) (by omega)
            refine ⟨vv, w'', exec_append (by rfl) (by rfl) (by rfl) hrun, Kept.of_from hb, ?_⟩
            have UM_2_26 := Lib.hid (RdS.grown UM_2_27.out hg NE_R_M_2_9.out)
            have NE_R_M_2_26 : RowKit.Hid (∀ a, A3 = some a → 0 < (N1 + 4) → some a.block ≠ _) := Lib.hid (fun a ha hn => Ow.ne2 (NE_R_M_2_9.out a ha hn) (UM_2_27.out.low a ha hn) hbk)
            have US_2_26 := Lib.hid (RdS.grown US_2_27.out hg NF_NE_R_S_2_17.out)
            have NE_R_S_2_26 : RowKit.Hid (∀ a, (some (⟨g2_17, 0, none⟩ : Addr)) = some a → 0 < 1 → some a.block ≠ _) := Lib.hid (fun a ha hn => Ow.ne2 (NF_NE_R_S_2_17.out a ha hn) (US_2_27.out.low a ha hn) hbk)
            have E_2_26 : RowKit.Hid (Ext W1 w'') := Lib.hid ho.below
            have hkk : Kept (From_ B0) v2_20 w'' := (Kept.of_ext hw').trans (Kept.of_from hb)
            obtain ⟨AA2_26, cc2_26, rfl, hrr⟩ := ho.rds
            have RR_2_26 := Lib.hid ho
            clear hrr
            obtain ⟨z2_26, gz2_26⟩ : ∃ x, w'' = x := ⟨_, rfl⟩
            rw [gz2_26] at RR_2_26 UM_2_26 US_2_26 E_2_26 hkk ⊢
            have ldt2_28 := fun w'' (h : Kept (From_ B0) z2_26 w'') => ldt2_21 w'' (hkk.trans h)
            have ldt2_29 := fun w'' (h : Kept (From_ B0) z2_26 w'') => ldt2_22 w'' (hkk.trans h)
            have ldt2_30 := fun w'' (h : Kept (From_ B0) z2_26 w'') => ldt2_23 w'' (hkk.trans h)
            have ldt2_31 := fun w'' (h : Kept (From_ B0) z2_26 w'') => ldt2_24 w'' (hkk.trans h)
            have ldt2_32 := fun w'' (h : Kept (From_ B0) z2_26 w'') => ldt2_25 w'' (hkk.trans h)
            clear ldt2_21 ldt2_22 ldt2_23 ldt2_24 ldt2_25
            clear hkk hrun ho hb hg hbk gz2_26 hw'
            try simp only [Act.put, stA_, st0_, st1_]
            apply wpR_next 12 (some 7)
            · rfl
            · rfl
            · kernel_rfl
            · kernel_rfl
            · kernel_rfl
            · first | exact fun _ _ _ _ h => Exit.noConfusion h.1 | exact fun _ _ _ _ h => h
            apply Exists.intro
            apply And.intro
            · apply yr_run; rfl; intro w' hw'; go_simp; (try with_reducible rfl)
            simp only [Act.put, stA_, st0_, st1_]
            refine wpR_done (by kernel_rfl) ?_ _
            intro wE hwE
            have ho := RR_2_26.out.up hwE
            have HIz : RowKit.Hid (Ow w2 w2.heap.size 5 1 _ _ _ wE) := Lib.hid ⟨own_lo8 ho.own (by have := HB0.out; have := HI1.out.below.size; omega), bel_bl HI1.out.below ho.below, Nat.le_refl _, (bel_bl HI1.out.below ho.below).size⟩
            clear ho hwE ldt2_28 ldt2_29 ldt2_30 ldt2_31 ldt2_32
            go_wp2
            go_roundw
            case rel => exact ⟨k + 1, N1 + 4 + 4 + 1, AA2_26, cc2_26, by omega, by go_num, rfl, by rw [HNx.out, HFd.out]; rw [List.length_append, List.length_append, List.length_append, HN1.out]; simp [idB], Lib.hid (by have := HIz.out; rw [HNx.out, HFd.out]; rw [show X1 ++ (idB (o.s1, o.n1) ++ (idB (o.s2, o.n2) ++ [q2])) = X1 ++ idB (o.s1, o.n1) ++ idB (o.s2, o.n2) ++ [q2] from by simp only [List.append_assoc], rowsV_app f8 (X1 ++ idB (o.s1, o.n1) ++ idB (o.s2, o.n2))]; exact this)⟩
            case measure => simp [intOf]; omega
          · apply at_run 10 (some 69)
            · rfl
            · rfl
            · rfl
            intro w' hw'
            have UM_3_34 := Lib.hid (RdS.bl UM_1_1.out (hw'))
            have E_3_34 := Lib.hid (Ext.trans E_1_3.out (hw'))
            refine ⟨.slice (some ⟨w'.heap.size, 0, none⟩) 1 1, w'.alloc (.cells (#[.int .u8 (q2 : Int)]) 5), exec_buildSlice 23 5 1 #[(0, .tmp 68)] (by rfl) Try.underlying23 _ (by kernel_rfl), Kept.of_below (below1 _ _), ?_⟩
            have UM_3_35 := Lib.hid (RdS.bl UM_3_34.out (below1 w' (.cells (#[.int .u8 (q2 : Int)]) 5)))
            have E_3_35 := Lib.hid (Ext.trans E_3_34.out (below1 w' (.cells (#[.int .u8 (q2 : Int)]) 5)))
            have US_n3_33 : RowKit.Hid (RdS (w'.alloc (.cells (#[.int .u8 (q2 : Int)]) 5)) (w'.alloc (.cells (#[.int .u8 (q2 : Int)]) 5)).heap.size 1 (some ⟨w'.heap.size, 0, none⟩) 1 1 (rowsV f8 [q2])) := Lib.hid (RdS.of_whole8 (Whole.new_ _ _ _) rfl)
            have hkk : Kept (From_ B0) z1_1 (w'.alloc (.cells (#[.int .u8 (q2 : Int)]) 5)) := (Kept.of_ext hw').trans (Kept.of_below (below1 _ _))
            obtain ⟨v3_36, gv3_36⟩ : ∃ x, w'.alloc (.cells (#[.int .u8 (q2 : Int)]) 5) = x := ⟨_, rfl⟩
            rw [gv3_36] at UM_3_35 US_n3_33 E_3_35 hkk ⊢
            have ldt3_37 := fun w'' (h : Kept (From_ B0) v3_36 w'') => ldt1_4 w'' (hkk.trans h)
            have ldt3_38 := fun w'' (h : Kept (From_ B0) v3_36 w'') => ldt1_5 w'' (hkk.trans h)
            have ldt3_39 := fun w'' (h : Kept (From_ B0) v3_36 w'') => ldt1_6 w'' (hkk.trans h)
            have ldt3_40 := fun w'' (h : Kept (From_ B0) v3_36 w'') => ldt1_7 w'' (hkk.trans h)
            have ldt3_41 := fun w'' (h : Kept (From_ B0) v3_36 w'') => ldt1_8 w'' (hkk.trans h)
            clear ldt1_4 ldt1_5 ldt1_6 ldt1_7 ldt1_8
            clear gv3_36 hkk
            obtain ⟨g3_33, gg3_33⟩ : ∃ x, w'.heap.size = x := ⟨_, rfl⟩
            rw [gg3_33] at US_n3_33  ⊢
            clear gg3_33 hw'
            try simp only [Act.put, stA_, st0_, st1_]
            refine wpR_one 6 (by kernel_rfl) ?_
            apply at_call 6 (some 65)
            · rfl
            · rfl
            · rfl
            · intro w'; go_simp; first | done | exact ⟨rfl, rfl⟩ | with_reducible rfl
            intro w' hw'
            have UM_3_43 := Lib.hid (RdS.bl UM_3_35.out (hw'))
            have US_3_43 := Lib.hid (RdS.bl US_n3_33.out (hw'))
            have E_3_43 := Lib.hid (Ext.trans E_3_35.out (hw'))
            refine (ridput_4 A3 (N1 + 4) c3 (X1 ++ idB (o.s1, o.n1)) o.s2 o.n2 _ (by rw [List.length_append, HN1.out]; rfl) UM_3_43.out (by omega) HC2.out).mono ?_
            rintro e w'' ⟨AA3_42, cc3_42, rfl, -, -, hown, hb⟩
            have NE_R_M_3_42 : RowKit.Hid (∀ a, A3 = some a → 0 < (N1 + 4) → some a.block ≠ (Value.slice AA3_42 (N1 + 4 + 4) cc3_42).ownBlock) := Lib.hid (fun a ha hn e => by have h1 := (hown.lt _ e.symm).1; have h2 := UM_3_43.out.low a ha hn; omega)
            have NE_R_S_3_42 : RowKit.Hid (∀ a, (some (⟨g3_33, 0, none⟩ : Addr)) = some a → 0 < 1 → some a.block ≠ (Value.slice AA3_42 (N1 + 4 + 4) cc3_42).ownBlock) := Lib.hid (fun a ha hn e => by have h1 := (hown.lt _ e.symm).1; have h2 := US_3_43.out.low a ha hn; omega)
            have UM_3_44 := Lib.hid (RdS.bl UM_3_43.out (hb))
            have US_3_44 := Lib.hid (RdS.bl US_3_43.out (hb))
            have E_3_44 := Lib.hid (Ext.trans E_3_43.out (hb))
            have RR_n3_42 : RowKit.Hid (Ow W1 B0 5 1 (.slice AA3_42 (N1 + 4 + 4) cc3_42) (N1 + 4 + 4) (rowsV f8 (X1 ++ idB (o.s1, o.n1) ++ idB (o.s2, o.n2))) w'') := Lib.hid ⟨own_lo8 hown (by have h1 := E_3_43.out.size; have h2 := HB0.out; omega), E_3_44.out, Nat.le_of_eq HB0.out, by have h1 := E_3_44.out.size; have h2 := HB0.out; omega⟩
            have hkk : Kept (From_ B0) v3_36 w'' := (Kept.of_ext hw').trans (Kept.of_below hb)
            refine ⟨_, rfl, Kept.of_below hb, ?_⟩
            obtain ⟨z3_42, gz3_42⟩ : ∃ x, w'' = x := ⟨_, rfl⟩
            rw [gz3_42] at RR_n3_42 UM_3_44 US_3_44 E_3_44 hkk ⊢
            have ldt3_45 := fun w'' (h : Kept (From_ B0) z3_42 w'') => ldt3_37 w'' (hkk.trans h)
            have ldt3_46 := fun w'' (h : Kept (From_ B0) z3_42 w'') => ldt3_38 w'' (hkk.trans h)
            have ldt3_47 := fun w'' (h : Kept (From_ B0) z3_42 w'') => ldt3_39 w'' (hkk.trans h)
            have ldt3_48 := fun w'' (h : Kept (From_ B0) z3_42 w'') => ldt3_40 w'' (hkk.trans h)
            have ldt3_49 := fun w'' (h : Kept (From_ B0) z3_42 w'') => ldt3_41 w'' (hkk.trans h)
            clear ldt3_37 ldt3_38 ldt3_39 ldt3_40 ldt3_41
            clear hkk hown hb gz3_42 hw'
            try simp only [Act.put, stA_, st0_, st1_]
            refine wpR_one 11 (by kernel_rfl) ?_
            apply at_run 11 (some 70)
            · rfl
            · rfl
            · rfl
            intro w' hw'
            have RR_3_51 := Lib.hid (Ow.up RR_n3_42.out (hw'))
            have UM_3_51 := Lib.hid (RdS.bl UM_3_44.out (hw'))
            have US_3_51 := Lib.hid (RdS.bl US_3_44.out (hw'))
            have E_3_51 := Lib.hid (Ext.trans E_3_44.out (hw'))
            obtain ⟨vv, w'', hrun, ho, hb, hg, hbk⟩ := Ow.app2 (P := Try.prog) 23 23 5 i0 _ 1 1 _ Try.underlying23 hi hz0 hz1 hz2 rfl (by decide) _ _ _ RR_3_51.out _ _ _ _ _ (US_3_51.out) (f8_all [q2]) (by unfold maxLen; omega) (by omega)
            refine ⟨vv, w'', exec_append (by rfl) (by rfl) (by rfl) hrun, Kept.of_from hb, ?_⟩
            have UM_3_50 := Lib.hid (RdS.grown UM_3_51.out hg NE_R_M_3_42.out)
            have NE_R_M_3_50 : RowKit.Hid (∀ a, A3 = some a → 0 < (N1 + 4) → some a.block ≠ _) := Lib.hid (fun a ha hn => Ow.ne2 (NE_R_M_3_42.out a ha hn) (UM_3_51.out.low a ha hn) hbk)
            have US_3_50 := Lib.hid (RdS.grown US_3_51.out hg NE_R_S_3_42.out)
            have NE_R_S_3_50 : RowKit.Hid (∀ a, (some (⟨g3_33, 0, none⟩ : Addr)) = some a → 0 < 1 → some a.block ≠ _) := Lib.hid (fun a ha hn => Ow.ne2 (NE_R_S_3_42.out a ha hn) (US_3_51.out.low a ha hn) hbk)
            have E_3_50 : RowKit.Hid (Ext W1 w'') := Lib.hid ho.below
            have hkk : Kept (From_ B0) z3_42 w'' := (Kept.of_ext hw').trans (Kept.of_from hb)
            obtain ⟨AA3_50, cc3_50, rfl, hrr⟩ := ho.rds
            have RR_3_50 := Lib.hid ho
            clear hrr
            obtain ⟨z3_50, gz3_50⟩ : ∃ x, w'' = x := ⟨_, rfl⟩
            rw [gz3_50] at RR_3_50 UM_3_50 US_3_50 E_3_50 hkk ⊢
            have ldt3_52 := fun w'' (h : Kept (From_ B0) z3_50 w'') => ldt3_45 w'' (hkk.trans h)
            have ldt3_53 := fun w'' (h : Kept (From_ B0) z3_50 w'') => ldt3_46 w'' (hkk.trans h)
            have ldt3_54 := fun w'' (h : Kept (From_ B0) z3_50 w'') => ldt3_47 w'' (hkk.trans h)
            have ldt3_55 := fun w'' (h : Kept (From_ B0) z3_50 w'') => ldt3_48 w'' (hkk.trans h)
            have ldt3_56 := fun w'' (h : Kept (From_ B0) z3_50 w'') => ldt3_49 w'' (hkk.trans h)
            clear ldt3_45 ldt3_46 ldt3_47 ldt3_48 ldt3_49
            clear hkk hrun ho hb hg hbk gz3_50 hw'
            try simp only [Act.put, stA_, st0_, st1_]
            apply wpR_next 12 (some 7)
            · rfl
            · rfl
            · kernel_rfl
            · kernel_rfl
            · kernel_rfl
            · first | exact fun _ _ _ _ h => Exit.noConfusion h.1 | exact fun _ _ _ _ h => h
            apply Exists.intro
            apply And.intro
            · apply yr_run; rfl; intro w' hw'; go_simp; (try with_reducible rfl)
            simp only [Act.put, stA_, st0_, st1_]
            refine wpR_done (by kernel_rfl) ?_ _
            intro wE hwE
            have ho := RR_3_50.out.up hwE
            have HIz : RowKit.Hid (Ow w2 w2.heap.size 5 1 _ _ _ wE) := Lib.hid ⟨own_lo8 ho.own (by have := HB0.out; have := HI1.out.below.size; omega), bel_bl HI1.out.below ho.below, Nat.le_refl _, (bel_bl HI1.out.below ho.below).size⟩
            clear ho hwE ldt3_52 ldt3_53 ldt3_54 ldt3_55 ldt3_56
            go_wp2
            go_roundw
            case rel => exact ⟨k + 1, N1 + 4 + 4 + 1, AA3_50, cc3_50, by omega, by go_num, rfl, by rw [HNx.out, HFd.out]; rw [List.length_append, List.length_append, List.length_append, HN1.out]; simp [idB], Lib.hid (by have := HIz.out; rw [HNx.out, HFd.out]; rw [show X1 ++ (idB (o.s1, o.n1) ++ (idB (o.s2, o.n2) ++ [q2])) = X1 ++ idB (o.s1, o.n1) ++ idB (o.s2, o.n2) ++ [q2] from by simp only [List.append_assoc], rowsV_app f8 (X1 ++ idB (o.s1, o.n1) ++ idB (o.s2, o.n2))]; exact this)⟩
            case measure => simp [intOf]; omega
        · apply at_run 10 (some 69)
          · rfl
          · rfl
          · rfl
          intro w' hw'
          have E_4_58 := Lib.hid (Ext.trans EX9.out (hw'))
          refine ⟨.slice (some ⟨w'.heap.size, 0, none⟩) 1 1, w'.alloc (.cells (#[.int .u8 (q2 : Int)]) 5), exec_buildSlice 23 5 1 #[(0, .tmp 68)] (by rfl) Try.underlying23 _ (by kernel_rfl), Kept.of_below (below1 _ _), ?_⟩
          have E_4_59 := Lib.hid (Ext.trans E_4_58.out (below1 w' (.cells (#[.int .u8 (q2 : Int)]) 5)))
          have US_n4_57 : RowKit.Hid (RdS (w'.alloc (.cells (#[.int .u8 (q2 : Int)]) 5)) (w'.alloc (.cells (#[.int .u8 (q2 : Int)]) 5)).heap.size 1 (some ⟨w'.heap.size, 0, none⟩) 1 1 (rowsV f8 [q2])) := Lib.hid (RdS.of_whole8 (Whole.new_ _ _ _) rfl)
          have hkk : Kept (From_ B0) W1.drew (w'.alloc (.cells (#[.int .u8 (q2 : Int)]) 5)) := (Kept.of_ext hw').trans (Kept.of_below (below1 _ _))
          obtain ⟨v4_60, gv4_60⟩ : ∃ x, w'.alloc (.cells (#[.int .u8 (q2 : Int)]) 5) = x := ⟨_, rfl⟩
          rw [gv4_60] at US_n4_57 E_4_59 hkk ⊢
          have ldt4_61 := fun w'' (h : Kept (From_ B0) v4_60 w'') => lC3 w'' (hkk.trans h)
          have ldt4_62 := fun w'' (h : Kept (From_ B0) v4_60 w'') => lC4 w'' (hkk.trans h)
          have ldt4_63 := fun w'' (h : Kept (From_ B0) v4_60 w'') => lC5 w'' (hkk.trans h)
          have ldt4_64 := fun w'' (h : Kept (From_ B0) v4_60 w'') => lC6 w'' (hkk.trans h)
          have ldt4_65 := fun w'' (h : Kept (From_ B0) v4_60 w'') => lC19 w'' (hkk.trans h)
          clear lC3 lC4 lC5 lC6 lC19
          clear gv4_60 hkk
          obtain ⟨g4_57, gg4_57⟩ : ∃ x, w'.heap.size = x := ⟨_, rfl⟩
          rw [gg4_57] at US_n4_57  ⊢
          clear gg4_57 hw'
          try simp only [Act.put, stA_, st0_, st1_]
          refine wpR_one 3 (by kernel_rfl) ?_
          apply at_call 3 (some 62)
          · rfl
          · rfl
          · rfl
          · intro w'; go_simp; first | done | exact ⟨rfl, rfl⟩ | with_reducible rfl
          intro w' hw'
          have US_4_67 := Lib.hid (RdS.bl US_n4_57.out (hw'))
          have E_4_67 := Lib.hid (Ext.trans E_4_59.out (hw'))
          refine (ridput_4 A1 N1 c1 X1 o.s1 o.n1 _ HN1.out (HR1.out.bl E_4_67.out) (by omega) HC1.out).mono ?_
          rintro e w'' ⟨A3, c3, rfl, hr3, hn3, -, hb⟩
          have US_4_68 := Lib.hid (RdS.bl US_4_67.out (hb))
          have E_4_68 := Lib.hid (Ext.trans E_4_67.out (hb))
          have UM_4_66 := Lib.hid hr3
          clear hr3 hn3
          have hkk : Kept (From_ B0) v4_60 w'' := (Kept.of_ext hw').trans (Kept.of_below hb)
          refine ⟨_, rfl, Kept.of_below hb, ?_⟩
          obtain ⟨z4_66, gz4_66⟩ : ∃ x, w'' = x := ⟨_, rfl⟩
          rw [gz4_66] at US_4_68 UM_4_66 E_4_68 hkk ⊢
          have ldt4_69 := fun w'' (h : Kept (From_ B0) z4_66 w'') => ldt4_61 w'' (hkk.trans h)
          have ldt4_70 := fun w'' (h : Kept (From_ B0) z4_66 w'') => ldt4_62 w'' (hkk.trans h)
          have ldt4_71 := fun w'' (h : Kept (From_ B0) z4_66 w'') => ldt4_63 w'' (hkk.trans h)
          have ldt4_72 := fun w'' (h : Kept (From_ B0) z4_66 w'') => ldt4_64 w'' (hkk.trans h)
          have ldt4_73 := fun w'' (h : Kept (From_ B0) z4_66 w'') => ldt4_65 w'' (hkk.trans h)
          clear ldt4_61 ldt4_62 ldt4_63 ldt4_64 ldt4_65
          clear hkk hb gz4_66 hw'
          try simp only [Act.put, stA_, st0_, st1_]
          refine wpR_one 6 (by kernel_rfl) ?_
          apply at_call 6 (some 65)
          · rfl
          · rfl
          · rfl
          · intro w'; go_simp; first | done | exact ⟨rfl, rfl⟩ | with_reducible rfl
          intro w' hw'
          have US_4_75 := Lib.hid (RdS.bl US_4_68.out (hw'))
          have UM_4_75 := Lib.hid (RdS.bl UM_4_66.out (hw'))
          have E_4_75 := Lib.hid (Ext.trans E_4_68.out (hw'))
          refine (ridput_4 A3 (N1 + 4) c3 (X1 ++ idB (o.s1, o.n1)) o.s2 o.n2 _ (by rw [List.length_append, HN1.out]; rfl) UM_4_75.out (by omega) HC2.out).mono ?_
          rintro e w'' ⟨AA4_74, cc4_74, rfl, -, -, hown, hb⟩
          have NE_R_S_4_74 : RowKit.Hid (∀ a, (some (⟨g4_57, 0, none⟩ : Addr)) = some a → 0 < 1 → some a.block ≠ (Value.slice AA4_74 (N1 + 4 + 4) cc4_74).ownBlock) := Lib.hid (fun a ha hn e => by have h1 := (hown.lt _ e.symm).1; have h2 := US_4_75.out.low a ha hn; omega)
          have NE_R_M_4_74 : RowKit.Hid (∀ a, A3 = some a → 0 < (N1 + 4) → some a.block ≠ (Value.slice AA4_74 (N1 + 4 + 4) cc4_74).ownBlock) := Lib.hid (fun a ha hn e => by have h1 := (hown.lt _ e.symm).1; have h2 := UM_4_75.out.low a ha hn; omega)
          have US_4_76 := Lib.hid (RdS.bl US_4_75.out (hb))
          have UM_4_76 := Lib.hid (RdS.bl UM_4_75.out (hb))
          have E_4_76 := Lib.hid (Ext.trans E_4_75.out (hb))
          have RR_n4_74 : RowKit.Hid (Ow W1 B0 5 1 (.slice AA4_74 (N1 + 4 + 4) cc4_74) (N1 + 4 + 4) (rowsV f8 (X1 ++ idB (o.s1, o.n1) ++ idB (o.s2, o.n2))) w'') := Lib.hid ⟨own_lo8 hown (by have h1 := E_4_75.out.size; have h2 := HB0.out; omega), E_4_76.out, Nat.le_of_eq HB0.out, by have h1 := E_4_76.out.size; have h2 := HB0.out; omega⟩
          have hkk : Kept (From_ B0) z4_66 w'' := (Kept.of_ext hw').trans (Kept.of_below hb)
          refine ⟨_, rfl, Kept.of_below hb, ?_⟩
          obtain ⟨z4_74, gz4_74⟩ : ∃ x, w'' = x := ⟨_, rfl⟩
          rw [gz4_74] at RR_n4_74 US_4_76 UM_4_76 E_4_76 hkk ⊢
          have ldt4_77 := fun w'' (h : Kept (From_ B0) z4_74 w'') => ldt4_69 w'' (hkk.trans h)
          have ldt4_78 := fun w'' (h : Kept (From_ B0) z4_74 w'') => ldt4_70 w'' (hkk.trans h)
          have ldt4_79 := fun w'' (h : Kept (From_ B0) z4_74 w'') => ldt4_71 w'' (hkk.trans h)
          have ldt4_80 := fun w'' (h : Kept (From_ B0) z4_74 w'') => ldt4_72 w'' (hkk.trans h)
          have ldt4_81 := fun w'' (h : Kept (From_ B0) z4_74 w'') => ldt4_73 w'' (hkk.trans h)
          clear ldt4_69 ldt4_70 ldt4_71 ldt4_72 ldt4_73
          clear hkk hown hb gz4_74 hw'
          try simp only [Act.put, stA_, st0_, st1_]
          refine wpR_one 11 (by kernel_rfl) ?_
          apply at_run 11 (some 70)
          · rfl
          · rfl
          · rfl
          intro w' hw'
          have RR_4_83 := Lib.hid (Ow.up RR_n4_74.out (hw'))
          have US_4_83 := Lib.hid (RdS.bl US_4_76.out (hw'))
          have UM_4_83 := Lib.hid (RdS.bl UM_4_76.out (hw'))
          have E_4_83 := Lib.hid (Ext.trans E_4_76.out (hw'))
          obtain ⟨vv, w'', hrun, ho, hb, hg, hbk⟩ := Ow.app2 (P := Try.prog) 23 23 5 i0 _ 1 1 _ Try.underlying23 hi hz0 hz1 hz2 rfl (by decide) _ _ _ RR_4_83.out _ _ _ _ _ (US_4_83.out) (f8_all [q2]) (by unfold maxLen; omega) (by omega)
          refine ⟨vv, w'', exec_append (by rfl) (by rfl) (by rfl) hrun, Kept.of_from hb, ?_⟩
          have US_4_82 := Lib.hid (RdS.grown US_4_83.out hg NE_R_S_4_74.out)
          have NE_R_S_4_82 : RowKit.Hid (∀ a, (some (⟨g4_57, 0, none⟩ : Addr)) = some a → 0 < 1 → some a.block ≠ _) := Lib.hid (fun a ha hn => Ow.ne2 (NE_R_S_4_74.out a ha hn) (US_4_83.out.low a ha hn) hbk)
          have UM_4_82 := Lib.hid (RdS.grown UM_4_83.out hg NE_R_M_4_74.out)
          have NE_R_M_4_82 : RowKit.Hid (∀ a, A3 = some a → 0 < (N1 + 4) → some a.block ≠ _) := Lib.hid (fun a ha hn => Ow.ne2 (NE_R_M_4_74.out a ha hn) (UM_4_83.out.low a ha hn) hbk)
          have E_4_82 : RowKit.Hid (Ext W1 w'') := Lib.hid ho.below
          have hkk : Kept (From_ B0) z4_74 w'' := (Kept.of_ext hw').trans (Kept.of_from hb)
          obtain ⟨AA4_82, cc4_82, rfl, hrr⟩ := ho.rds
          have RR_4_82 := Lib.hid ho
          clear hrr
          obtain ⟨z4_82, gz4_82⟩ : ∃ x, w'' = x := ⟨_, rfl⟩
          rw [gz4_82] at RR_4_82 US_4_82 UM_4_82 E_4_82 hkk ⊢
          have ldt4_84 := fun w'' (h : Kept (From_ B0) z4_82 w'') => ldt4_77 w'' (hkk.trans h)
          have ldt4_85 := fun w'' (h : Kept (From_ B0) z4_82 w'') => ldt4_78 w'' (hkk.trans h)
          have ldt4_86 := fun w'' (h : Kept (From_ B0) z4_82 w'') => ldt4_79 w'' (hkk.trans h)
          have ldt4_87 := fun w'' (h : Kept (From_ B0) z4_82 w'') => ldt4_80 w'' (hkk.trans h)
          have ldt4_88 := fun w'' (h : Kept (From_ B0) z4_82 w'') => ldt4_81 w'' (hkk.trans h)
          clear ldt4_77 ldt4_78 ldt4_79 ldt4_80 ldt4_81
          clear hkk hrun ho hb hg hbk gz4_82 hw'
          try simp only [Act.put, stA_, st0_, st1_]
          apply wpR_next 12 (some 7)
          · rfl
          · rfl
          · kernel_rfl
          · kernel_rfl
          · kernel_rfl
          · first | exact fun _ _ _ _ h => Exit.noConfusion h.1 | exact fun _ _ _ _ h => h
          apply Exists.intro
          apply And.intro
          · apply yr_run; rfl; intro w' hw'; go_simp; (try with_reducible rfl)
          simp only [Act.put, stA_, st0_, st1_]
          refine wpR_done (by kernel_rfl) ?_ _
          intro wE hwE
          have ho := RR_4_82.out.up hwE
          have HIz : RowKit.Hid (Ow w2 w2.heap.size 5 1 _ _ _ wE) := Lib.hid ⟨own_lo8 ho.own (by have := HB0.out; have := HI1.out.below.size; omega), bel_bl HI1.out.below ho.below, Nat.le_refl _, (bel_bl HI1.out.below ho.below).size⟩
          clear ho hwE ldt4_84 ldt4_85 ldt4_86 ldt4_87 ldt4_88
          go_wp2
          go_roundw
          case rel => exact ⟨k + 1, N1 + 4 + 4 + 1, AA4_82, cc4_82, by omega, by go_num, rfl, by rw [HNx.out, HFd.out]; rw [List.length_append, List.length_append, List.length_append, HN1.out]; simp [idB], Lib.hid (by have := HIz.out; rw [HNx.out, HFd.out]; rw [show X1 ++ (idB (o.s1, o.n1) ++ (idB (o.s2, o.n2) ++ [q2])) = X1 ++ idB (o.s1, o.n1) ++ idB (o.s2, o.n2) ++ [q2] from by simp only [List.append_assoc], rowsV_app f8 (X1 ++ idB (o.s1, o.n1) ++ idB (o.s2, o.n2))]; exact this)⟩
          case measure => simp [intOf]; omega
      have q5 : (o.k == 5) = false := by simpa using k5
      by_cases k6 : o.k = 6
      · have q6 : (o.k == 6) = true := by rw [k6]; rfl
        have HFd := Lib.hid (fdB6 k6)
        have HC1 := Lib.hid ((mayO_parts HMo.out).2.2 k6)
        clear k6 k5 k3
        have l5 := HX1.out.cell (i := 5) rfl
        have l6 := HX1.out.cell (i := 6) rfl
        go_upto_region 8 with (first
          | (go_at_call 45
             refine (ridput_4 A1 N1 c1 X1 o.s2 o.n2 _ HN1.out (own_rds HI1.out.own) (by omega) HC1.out).mono ?_
             rintro e wb ⟨Ab, cb, rfl, -, -, h4, h5⟩
             have HI2 := Lib.hid (ow_call HI1.out.below (Ext.refl _) h4 h5)
             clear h4 h5 l0 l5 l6))
        go_wp2
        go_roundw
        case rel => exact ⟨k + 1, N1 + 4, Ab, cb, by omega, by go_num, rfl, by rw [HNx.out, HFd.out]; rw [List.length_append, HN1.out]; rfl, Lib.hid (by have := HI2.out; rw [HNx.out, HFd.out]; exact this)⟩
        case measure => simp [intOf]; omega
      have q6 : (o.k == 6) = false := by simpa using k6
      by_cases k7 : o.k = 7
      · have q7 : (o.k == 7) = true := by rw [k7]; rfl
        have HFd := Lib.hid (fdB7 k7)
        clear k3 k5 k6 k7
        obtain ⟨nt, gnt⟩ : ∃ z, (textB o.t).length = z := ⟨_, rfl⟩
        have hnt : nt ≤ 17 := by rw [← gnt]; simp [textB, tB_len]; omega
        have Gnt := Lib.hid gnt
        clear gnt
        go_upto_region 19 with fail
        clear l0 q3 q5 q6 q7
        have HD : RowKit.Hid (Ext W1 W1.drew) := Lib.hid (below_drewN W1.heap.size W1 1)
        have Hne : RowKit.Hid (some g2 ≠ (Value.slice A1 N1 c1).ownBlock) := Lib.hid (own_ne HI1.out.own HX1.out (by decide))
        have lC17 : ∀ w', Kept (fun i => some i = (Value.slice A1 N1 c1).ownBlock) W1.drew w' → w'.cell? ⟨g2, 17, none⟩ = some (.bool o.e) := fun w' h => h.cell (HX1.out.dr.cell (i := 17) rfl) Hne.out
        have lC18 : ∀ w', Kept (fun i => some i = (Value.slice A1 N1 c1).ownBlock) W1.drew w' → w'.cell? ⟨g2, 18, none⟩ = some (.string o.t) := fun w' h => h.cell (HX1.out.dr.cell (i := 18) rfl) Hne.out
        refine wp_region_reg (fun i => some i = (Value.slice A1 N1 c1).ownBlock) (by kernel_rfl) ?_
        refine opR_ 0 79 (v := ?_) ?_ ?_; rotate_left
        · intro w' hw'; go_simp; (try with_reducible rfl)
        simp only [st0_, st1_]
        refine opR_ 1 80 (v := ?_) ?_ ?_; rotate_left
        · intro w' hw'; go_simp; (try with_reducible rfl)
        simp only [st0_, st1_]
        refine opR_ 2 81 (v := ?_) ?_ ?_; rotate_left
        · intro w' hw'; go_simp; (try with_reducible rfl)
        simp only [st0_, st1_]
        refine opR_ 6 85 (v := ?_) ?_ ?_; rotate_left
        · intro w' hw'; go_simp; (try with_reducible rfl)
        simp only [st0_, st1_]
        refine opR_ 7 86 (v := ?_) ?_ ?_; rotate_left
        · intro w' hw'; go_simp; (try with_reducible rfl)
        simp only [st0_, st1_]
        apply wpR_call 3 (some 82)
        · rfl
        · rfl
        · kernel_rfl
        · rfl
        · intro w'; go_simp; first | done | exact ⟨rfl, rfl⟩ | with_reducible rfl
        intro w' hw'
        refine (rflag10_any o.e w').mono ?_
        rintro e wf ⟨rfl, hbf⟩
        refine ⟨_, rfl, Kept.of_below hbf, ?_⟩
        have hEf : Ext W1 wf := Ext.trans (Ext.trans HD.out hw') hbf
        have HIf := Lib.hid (HI1.out.up hEf)
        have HXf := Lib.hid (HX1.out.bl hEf)
        have HEf := Lib.hid hEf
        have kk : Kept (fun i => some i = (Value.slice A1 N1 c1).ownBlock) W1.drew wf := (Kept.of_ext hw').trans (Kept.of_below hbf)
        replace lC17 := fun w4 (h : Kept (fun i => some i = (Value.slice A1 N1 c1).ownBlock) (wf) w4) => lC17 w4 (kk.trans h)
        replace lC18 := fun w4 (h : Kept (fun i => some i = (Value.slice A1 N1 c1).ownBlock) (wf) w4) => lC18 w4 (kk.trans h)
        clear hw' hbf hEf kk
        simp only [Act.put, stA_, st0_, st1_]
        apply wpR_run 4 (some 83)
        · rfl
        · rfl
        · kernel_rfl
        · rfl
        intro w' hw'
        refine ⟨.slice (some ⟨w'.heap.size, 0, none⟩) 1 1, w'.alloc (.cells #[.int .u8 (fl o.e : Int)] 5), exec_buildSlice 23 5 1 #[(0, .tmp 82)] (by rfl) Try.underlying23 _ (by kernel_rfl), Kept.of_below (below1 _ _), ?_⟩
        have hE : Ext wf (w'.alloc (.cells #[.int .u8 (fl o.e : Int)] 5)) := Ext.trans hw' (below1 _ _)
        have HIa := Lib.hid (HIf.out.up hE)
        have HXa := Lib.hid (HXf.out.bl hE)
        have HLa := Lib.hid (one8 w' (fl o.e))
        have hEa : Ext W1 (w'.alloc (.cells #[.int .u8 (fl o.e : Int)] 5)) := Ext.trans HEf.out hE
        have HEa := Lib.hid hEa
        have kk : Kept (fun i => some i = (Value.slice A1 N1 c1).ownBlock) wf (w'.alloc (.cells #[.int .u8 (fl o.e : Int)] 5)) := (Kept.of_ext hw').trans (Kept.of_below (below1 _ _))
        replace lC17 := fun w4 (h : Kept (fun i => some i = (Value.slice A1 N1 c1).ownBlock) ((w'.alloc (.cells #[.int .u8 (fl o.e : Int)] 5))) w4) => lC17 w4 (kk.trans h)
        replace lC18 := fun w4 (h : Kept (fun i => some i = (Value.slice A1 N1 c1).ownBlock) ((w'.alloc (.cells #[.int .u8 (fl o.e : Int)] 5))) w4) => lC18 w4 (kk.trans h)
        obtain ⟨wa, gwa⟩ : ∃ z, (w'.alloc (.cells #[.int .u8 (fl o.e : Int)] 5)) = z := ⟨_, rfl⟩
        obtain ⟨ga, gga⟩ : ∃ z, w'.heap.size = z := ⟨_, rfl⟩
        rw [gwa] at HIa HXa HLa HEa lC17 lC18 ⊢
        rw [gga] at HLa ⊢
        clear hw' hE hEa kk gwa gga
        simp only [Act.put, stA_, st0_, st1_]
        apply wpR_run 5 (some 84)
        · rfl
        · rfl
        · kernel_rfl
        · rfl
        intro w' hw'
        obtain ⟨vv, w'', hrun, ho, hb, hg, hbk⟩ := Ow.app2 (P := Try.prog) 23 23 5 i0 _ 1 1 _ Try.underlying23 hi hz0 hz1 hz2 rfl (by decide) _ _ _ (HIa.out.up hw') _ _ _ _ _ (HLa.out.bl hw') (f8_all [fl o.e]) (by unfold maxLen; omega) (by omega)
        refine ⟨vv, w'', exec_append (by rfl) (by rfl) (by rfl) hrun, kept_grow hg (fun i e => e), ?_⟩
        rw [← rowsV_app] at ho
        obtain ⟨Ab, cb, rfl, hrb⟩ := ho.rds
        have HIb := Lib.hid ho
        have HXb := Lib.hid (Whole.grown (HXa.out.bl hw') hg Hne.out)
        have HRb := Lib.hid hrb
        have kk : Kept (fun i => some i = (Value.slice A1 N1 c1).ownBlock) wa w'' := (Kept.of_ext hw').trans (kept_grow hg (fun i e => e))
        replace lC17 := fun w4 (h : Kept (fun i => some i = (Value.slice A1 N1 c1).ownBlock) (w'') w4) => lC17 w4 (kk.trans h)
        replace lC18 := fun w4 (h : Kept (fun i => some i = (Value.slice A1 N1 c1).ownBlock) (w'') w4) => lC18 w4 (kk.trans h)
        obtain ⟨wb, gwb⟩ : ∃ z, w'' = z := ⟨_, rfl⟩
        rw [gwb] at HIb HXb HRb lC17 lC18 ⊢
        clear hw' kk hrun ho hb hg hbk hrb gwb HIa HXa HLa
        simp only [Act.put, stA_, st0_, st1_]
        apply wpR_call 8 (some 87)
        · rfl
        · rfl
        · kernel_rfl
        · rfl
        · intro w'; go_simp; first | done | exact ⟨rfl, rfl⟩ | with_reducible rfl
        intro w' hw'
        refine (rtext_p Ab (N1 + 1) cb (X1 ++ [fl o.e]) o.t w' (by rw [List.length_append, HN1.out]; rfl) (HRb.out.bl hw') (by omega) (by omega) nt Gnt.out).mono ?_
        rintro e wc ⟨A2, c2, rfl, -, -, h4, h5⟩
        refine ⟨_, rfl, Kept.of_below h5, ?_⟩
        have HIc := Lib.hid (ow_call HIb.out.below hw' h4 h5)
        have HXc := Lib.hid (HXb.out.bl (Ext.trans hw' h5))
        clear hw' h4 h5 lC17 lC18 HIb HXb HRb HEa
        simp only [Act.put, stA_, st0_, st1_]
        refine opR_ 9 7 (v := ?_) ?_ ?_; rotate_left
        · intro w' hw'; go_simp; (try with_reducible rfl)
        simp only [st0_, st1_]
        refine wpR_done (by kernel_rfl) ?_ _
        intro wE hwE
        have HI2 := Lib.hid (HIc.out.up hwE)
        have HX2 := Lib.hid (HXc.out.bl hwE)
        obtain ⟨W2, gW2⟩ : ∃ z, wE = z := ⟨_, rfl⟩
        rw [gW2] at HI2 HX2 ⊢
        clear hwE gW2 HIc HXc HD Hne HI1 HX1 HIf HXf HEf
        go_wp2
        go_roundw
        case rel => exact ⟨k + 1, N1 + 1 + nt, A2, c2, by omega, by go_num, rfl, by rw [HNx.out, HFd.out]; rw [List.length_append, List.length_cons, HN1.out, Gnt.out]; try omega, Lib.hid (by have := HI2.out; rw [HNx.out, HFd.out]; rw [show X1 ++ fl o.e :: textB o.t = X1 ++ [fl o.e] ++ textB o.t from by simp only [List.append_assoc, List.cons_append, List.nil_append]]; exact this)⟩
        case measure => simp [intOf]; omega
      have q7 : (o.k == 7) = false := by simpa using k7
      by_cases k8 : o.k = 8
      · have q8 : (o.k == 8) = true := by rw [k8]; rfl
        have HFd := Lib.hid (fdB8 k8)
        clear k3 k5 k6 k7 k8
        go_upto_region 21 with fail
        clear l0 q3 q5 q6 q7 q8
        have HD : RowKit.Hid (Ext W1 W1.drew) := Lib.hid (below_drewN W1.heap.size W1 1)
        have Hne : RowKit.Hid (some g2 ≠ (Value.slice A1 N1 c1).ownBlock) := Lib.hid (own_ne HI1.out.own HX1.out (by decide))
        have lC17 : ∀ w', Kept (fun i => some i = (Value.slice A1 N1 c1).ownBlock) W1.drew w' → w'.cell? ⟨g2, 17, none⟩ = some (.bool o.e) := fun w' h => h.cell (HX1.out.dr.cell (i := 17) rfl) Hne.out
        have lC19 : ∀ w', Kept (fun i => some i = (Value.slice A1 N1 c1).ownBlock) W1.drew w' → w'.cell? ⟨g2, 19, none⟩ = some (.int .i64 o.m) := fun w' h => h.cell (HX1.out.dr.cell (i := 19) rfl) Hne.out
        refine wp_region_reg (fun i => some i = (Value.slice A1 N1 c1).ownBlock) (by kernel_rfl) ?_
        refine opR_ 0 90 (v := ?_) ?_ ?_; rotate_left
        · intro w' hw'; go_simp; (try with_reducible rfl)
        simp only [st0_, st1_]
        refine opR_ 1 91 (v := ?_) ?_ ?_; rotate_left
        · intro w' hw'; go_simp; (try with_reducible rfl)
        simp only [st0_, st1_]
        refine opR_ 2 92 (v := ?_) ?_ ?_; rotate_left
        · intro w' hw'; go_simp; (try with_reducible rfl)
        simp only [st0_, st1_]
        refine opR_ 6 96 (v := ?_) ?_ ?_; rotate_left
        · intro w' hw'; go_simp; (try with_reducible rfl)
        simp only [st0_, st1_]
        refine opR_ 7 97 (v := ?_) ?_ ?_; rotate_left
        · intro w' hw'; go_simp; (try with_reducible rfl)
        simp only [st0_, st1_]
        apply wpR_call 3 (some 93)
        · rfl
        · rfl
        · kernel_rfl
        · rfl
        · intro w'; go_simp; first | done | exact ⟨rfl, rfl⟩ | with_reducible rfl
        intro w' hw'
        refine (rflag10_any o.e w').mono ?_
        rintro e wf ⟨rfl, hbf⟩
        refine ⟨_, rfl, Kept.of_below hbf, ?_⟩
        have hEf : Ext W1 wf := Ext.trans (Ext.trans HD.out hw') hbf
        have HIf := Lib.hid (HI1.out.up hEf)
        have HXf := Lib.hid (HX1.out.bl hEf)
        have HEf := Lib.hid hEf
        have kk : Kept (fun i => some i = (Value.slice A1 N1 c1).ownBlock) W1.drew wf := (Kept.of_ext hw').trans (Kept.of_below hbf)
        replace lC17 := fun w4 (h : Kept (fun i => some i = (Value.slice A1 N1 c1).ownBlock) (wf) w4) => lC17 w4 (kk.trans h)
        replace lC19 := fun w4 (h : Kept (fun i => some i = (Value.slice A1 N1 c1).ownBlock) (wf) w4) => lC19 w4 (kk.trans h)
        clear hw' hbf hEf kk
        simp only [Act.put, stA_, st0_, st1_]
        apply wpR_run 4 (some 94)
        · rfl
        · rfl
        · kernel_rfl
        · rfl
        intro w' hw'
        refine ⟨.slice (some ⟨w'.heap.size, 0, none⟩) 1 1, w'.alloc (.cells #[.int .u8 (fl o.e : Int)] 5), exec_buildSlice 23 5 1 #[(0, .tmp 93)] (by rfl) Try.underlying23 _ (by kernel_rfl), Kept.of_below (below1 _ _), ?_⟩
        have hE : Ext wf (w'.alloc (.cells #[.int .u8 (fl o.e : Int)] 5)) := Ext.trans hw' (below1 _ _)
        have HIa := Lib.hid (HIf.out.up hE)
        have HXa := Lib.hid (HXf.out.bl hE)
        have HLa := Lib.hid (one8 w' (fl o.e))
        have hEa : Ext W1 (w'.alloc (.cells #[.int .u8 (fl o.e : Int)] 5)) := Ext.trans HEf.out hE
        have HEa := Lib.hid hEa
        have kk : Kept (fun i => some i = (Value.slice A1 N1 c1).ownBlock) wf (w'.alloc (.cells #[.int .u8 (fl o.e : Int)] 5)) := (Kept.of_ext hw').trans (Kept.of_below (below1 _ _))
        replace lC17 := fun w4 (h : Kept (fun i => some i = (Value.slice A1 N1 c1).ownBlock) ((w'.alloc (.cells #[.int .u8 (fl o.e : Int)] 5))) w4) => lC17 w4 (kk.trans h)
        replace lC19 := fun w4 (h : Kept (fun i => some i = (Value.slice A1 N1 c1).ownBlock) ((w'.alloc (.cells #[.int .u8 (fl o.e : Int)] 5))) w4) => lC19 w4 (kk.trans h)
        obtain ⟨wa, gwa⟩ : ∃ z, (w'.alloc (.cells #[.int .u8 (fl o.e : Int)] 5)) = z := ⟨_, rfl⟩
        obtain ⟨ga, gga⟩ : ∃ z, w'.heap.size = z := ⟨_, rfl⟩
        rw [gwa] at HIa HXa HLa HEa lC17 lC19 ⊢
        rw [gga] at HLa ⊢
        clear hw' hE hEa kk gwa gga
        simp only [Act.put, stA_, st0_, st1_]
        apply wpR_run 5 (some 95)
        · rfl
        · rfl
        · kernel_rfl
        · rfl
        intro w' hw'
        obtain ⟨vv, w'', hrun, ho, hb, hg, hbk⟩ := Ow.app2 (P := Try.prog) 23 23 5 i0 _ 1 1 _ Try.underlying23 hi hz0 hz1 hz2 rfl (by decide) _ _ _ (HIa.out.up hw') _ _ _ _ _ (HLa.out.bl hw') (f8_all [fl o.e]) (by unfold maxLen; omega) (by omega)
        refine ⟨vv, w'', exec_append (by rfl) (by rfl) (by rfl) hrun, kept_grow hg (fun i e => e), ?_⟩
        rw [← rowsV_app] at ho
        obtain ⟨Ab, cb, rfl, hrb⟩ := ho.rds
        have HIb := Lib.hid ho
        have HXb := Lib.hid (Whole.grown (HXa.out.bl hw') hg Hne.out)
        have HRb := Lib.hid hrb
        have kk : Kept (fun i => some i = (Value.slice A1 N1 c1).ownBlock) wa w'' := (Kept.of_ext hw').trans (kept_grow hg (fun i e => e))
        replace lC17 := fun w4 (h : Kept (fun i => some i = (Value.slice A1 N1 c1).ownBlock) (w'') w4) => lC17 w4 (kk.trans h)
        replace lC19 := fun w4 (h : Kept (fun i => some i = (Value.slice A1 N1 c1).ownBlock) (w'') w4) => lC19 w4 (kk.trans h)
        obtain ⟨wb, gwb⟩ : ∃ z, w'' = z := ⟨_, rfl⟩
        rw [gwb] at HIb HXb HRb lC17 lC19 ⊢
        clear hw' kk hrun ho hb hg hbk hrb gwb HIa HXa HLa
        simp only [Act.put, stA_, st0_, st1_]
        apply wpR_call 8 (some 98)
        · rfl
        · rfl
        · kernel_rfl
        · rfl
        · intro w'; go_simp; first | done | exact ⟨rfl, rfl⟩ | with_reducible rfl
        intro w' hw'
        refine (rnum_p Ab (N1 + 1) cb (X1 ++ [fl o.e]) o.m w' (by rw [List.length_append, HN1.out]; rfl) (HRb.out.bl hw') (by omega)).mono ?_
        rintro e wc ⟨A2, c2, rfl, -, -, h4, h5⟩
        refine ⟨_, rfl, Kept.of_below h5, ?_⟩
        have HIc := Lib.hid (ow_call HIb.out.below hw' h4 h5)
        have HXc := Lib.hid (HXb.out.bl (Ext.trans hw' h5))
        clear hw' h4 h5 lC17 lC19 HIb HXb HRb HEa
        simp only [Act.put, stA_, st0_, st1_]
        refine opR_ 9 7 (v := ?_) ?_ ?_; rotate_left
        · intro w' hw'; go_simp; (try with_reducible rfl)
        simp only [st0_, st1_]
        refine wpR_done (by kernel_rfl) ?_ _
        intro wE hwE
        have HI2 := Lib.hid (HIc.out.up hwE)
        have HX2 := Lib.hid (HXc.out.bl hwE)
        obtain ⟨W2, gW2⟩ : ∃ z, wE = z := ⟨_, rfl⟩
        rw [gW2] at HI2 HX2 ⊢
        clear hwE gW2 HIc HXc HD Hne HI1 HX1 HIf HXf HEf
        go_wp2
        go_roundw
        case rel => exact ⟨k + 1, N1 + 1 + 8, A2, c2, by omega, by go_num, rfl, by rw [HNx.out, HFd.out]; rw [List.length_append, List.length_cons, HN1.out, be8_len]; try omega, Lib.hid (by have := HI2.out; rw [HNx.out, HFd.out]; rw [show X1 ++ fl o.e :: be8 o.m = X1 ++ [fl o.e] ++ be8 o.m from by simp only [List.append_assoc, List.cons_append, List.nil_append]]; exact this)⟩
        case measure => simp [intOf]; omega
      have q8 : (o.k == 8) = false := by simpa using k8
      have HFd := Lib.hid (fdB0 k3 k5 k6 k7 k8)
      clear k3 k5 k6 k7 k8
      go_wp2
      go_roundw
      case rel => exact ⟨k + 1, N1, A1, c1, by omega, by go_num, rfl, by rw [HNx.out, HFd.out]; rw [List.append_nil, HN1.out], Lib.hid (by have := HI1.out; rw [HNx.out, HFd.out]; rw [List.append_nil]; exact this)⟩
      case measure => simp [intOf]; omega
    · obtain rfl : n = k := by omega
      have hi1 : ¬ (n : Int) < (n : Int) := by omega
      have hfull : pT B L n = B ++ edB L := by rw [← Hn.out]; exact HPa.out
      rw [hfull] at hN hin
      have HN9 := Lib.hid hN
      have HI9 := Lib.hid hin.out
      clear hin hfull hN hlt
      go_wp2
      exact bodyPost_ret (v := .tuple #[.slice Ak N ck, .int .i64 0]) (by simp [results, Try.results28, go_sem]) rfl ⟨Ak, ck, by first | rw [← HN9.out] | rw [HN9.out, List.length_append], by first | (rw [← HN9.out]; exact own_lo8 HI9.out.own HB2.out.size) | (rw [← List.length_append, ← HN9.out]; exact own_lo8 HI9.out.own HB2.out.size), bel_bl HB2.out HI9.out.below⟩
end Go.Proofs.Ytinfbaflkjghhaa
