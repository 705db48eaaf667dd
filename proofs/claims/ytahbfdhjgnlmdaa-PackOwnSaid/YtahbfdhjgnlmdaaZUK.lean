/- PackBack's walk. -/
import Derived.Test.YtahbfdhjgnlmdaaZUJ
import Derived.Test.YtahbfdhjgnlmdaaZUE
import Derived.Test.YtahbfdhjgnlmdaaZUG
import Derived.Test.YtahbfdhjgnlmdaaZUH
import Derived.Test.YtahbfdhjgnlmdaaZUI
import Derived.Test.YtahbfdhjgnlmdaaZUF

/- pack.read. -/
namespace Go.Proofs.Ytahbfdhjgnlmdaa
open Go.RowKit
set_option linter.unusedSimpArgs false
set_option linter.unusedVariables false

set_option maxRecDepth 100000 in
set_option maxHeartbeats 4000000 in
theorem read_any (A : Option Addr) (n c : Nat) (L : List Nat) (w : World) (h : RdS w w.heap.size 1 A n c (rowsV f8 L)) (hb : ∀ b ∈ L, b < 256) (hn : n ≤ 100000) :
    Calls Try.prog 43 #[.slice A n c] w fun e w' => ∃ A' n' c' B' m' k' Ws, e = .returned (.agg #[.slice A' n' c', .slice B' m' k']) ∧ ClS w' w.heap.size A' n' c' Ws B' m' k' (rdAE L) ∧ Ws.map vS = rdAV L ∧ Below w.heap.size w w' := by
  have HR0 := Lib.hid h
  have hc1 := byte_lt hb
  have hb1 : ∀ b ∈ L.drop 1, b < 256 := fun b q => hb b (List.mem_of_mem_drop q)
  have HCa := Lib.hid (fun W g h => count_at w.heap.size g L W h hb)
  obtain ⟨N1, gN1⟩ : ∃ z, c1 L = z := ⟨_, rfl⟩
  have eE : rdEs N1 (L.drop 1) = rdAE L := by unfold rdAE; rw [gN1]
  obtain ⟨RE, gRE⟩ : ∃ z, rdEr N1 (L.drop 1) = z := ⟨_, rfl⟩
  obtain ⟨Ef, gEf⟩ : ∃ z, rdAE L = z := ⟨_, rfl⟩
  have eV : rdVs Ef (c1 RE) (RE.drop 1) = rdAV L := by unfold rdAV; rw [gN1, gRE, gEf]
  obtain ⟨Vf, gVf⟩ : ∃ z, rdAV L = z := ⟨_, rfl⟩
  rw [gVf] at eV
  rw [gEf] at eE
  rw [gN1] at HCa hc1
  have HeE := Lib.hid eE
  have HeV := Lib.hid eV
  have HgR := Lib.hid gRE
  obtain ⟨R1, gR1⟩ : ∃ z, L.drop 1 = z := ⟨_, rfl⟩
  rw [gR1] at HCa hb1 HeE HgR
  rw [gEf, gVf]
  have Hb1 := Lib.hid hb1
  clear h hb hb1 eE eV gN1 gRE gEf gVf gR1
  go_enter Try.func43, Try.ntmps43
  go_upto_region 3 with fail
  have hx0 : Whole (((w.alloc (.cells #[.slice none 0 0, .slice none 0 0] 25)).alloc (.cells #[.slice A n c] 89)).alloc (.cells #[.slice none 0 0, .slice none 0 0] 25)) (w.heap.size) 25 [.slice none 0 0, .slice none 0 0] := (((Whole.new_ w 25 [.slice none 0 0, .slice none 0 0]).alloc (.cells #[.slice A n c] 89)).alloc (.cells #[.slice none 0 0, .slice none 0 0] 25))
  have hx1 : Whole (((w.alloc (.cells #[.slice none 0 0, .slice none 0 0] 25)).alloc (.cells #[.slice A n c] 89)).alloc (.cells #[.slice none 0 0, .slice none 0 0] 25)) (w.heap.size + 1) 89 [.slice A n c] := ((Whole.new2 (w := (w.alloc (.cells #[.slice none 0 0, .slice none 0 0] 25))) (by simp)).alloc (.cells #[.slice none 0 0, .slice none 0 0] 25))
  have hx2 : Whole (((w.alloc (.cells #[.slice none 0 0, .slice none 0 0] 25)).alloc (.cells #[.slice A n c] 89)).alloc (.cells #[.slice none 0 0, .slice none 0 0] 25)) (w.heap.size + 1 + 1) 25 [.slice none 0 0, .slice none 0 0] := (Whole.new2 (w := ((w.alloc (.cells #[.slice none 0 0, .slice none 0 0] 25)).alloc (.cells #[.slice A n c] 89))) (by simp))
  have hbl : Below w.heap.size w (((w.alloc (.cells #[.slice none 0 0, .slice none 0 0] 25)).alloc (.cells #[.slice A n c] 89)).alloc (.cells #[.slice none 0 0, .slice none 0 0] 25)) := (bel_al (bel_al (below1 w (.cells #[.slice none 0 0, .slice none 0 0] 25)) (.cells #[.slice A n c] 89)) (.cells #[.slice none 0 0, .slice none 0 0] 25))
  have hsz : w.heap.size + 1 + 1 + 1 ≤ ((((w.alloc (.cells #[.slice none 0 0, .slice none 0 0] 25)).alloc (.cells #[.slice A n c] 89)).alloc (.cells #[.slice none 0 0, .slice none 0 0] 25))).heap.size := by simp
  obtain ⟨W0, gW0⟩ : ∃ z, (((w.alloc (.cells #[.slice none 0 0, .slice none 0 0] 25)).alloc (.cells #[.slice A n c] 89)).alloc (.cells #[.slice none 0 0, .slice none 0 0] 25)) = z := ⟨_, rfl⟩
  rw [gW0] at hx0 hx1 hx2 hbl hsz
  obtain ⟨b2, gb2⟩ : ∃ z, w.heap.size + 1 + 1 = z := ⟨_, rfl⟩
  rw [gb2] at hx2
  obtain ⟨b1, gb1⟩ : ∃ z, w.heap.size + 1 = z := ⟨_, rfl⟩
  rw [gb1] at hx1
  obtain ⟨b0, gb0⟩ : ∃ z, w.heap.size = z := ⟨_, rfl⟩
  rw [gb0] at hx0
  have HX0 := Lib.hid hx0
  have HX1 := Lib.hid hx1
  have HX2 := Lib.hid hx2
  have HB0 := Lib.hid hbl
  have HS0 := Lib.hid hsz
  have Gb0 := Lib.hid gb0
  have Lb0 : RowKit.Hid (w.heap.size ≤ b0) := Lib.hid (by omega)
  have Gb1 := Lib.hid gb1
  have Lb1 : RowKit.Hid (w.heap.size ≤ b1) := Lib.hid (by omega)
  have Gb2 := Lib.hid gb2
  have Lb2 : RowKit.Hid (w.heap.size ≤ b2) := Lib.hid (by omega)
  have N01 : RowKit.Hid (b0 ≠ b1) := Lib.hid (by omega)
  have N02 : RowKit.Hid (b0 ≠ b2) := Lib.hid (by omega)
  have N12 : RowKit.Hid (b1 ≠ b2) := Lib.hid (by omega)
  rw [gW0, gb2, gb1, gb0]
  clear gW0 hbl hsz hx0 hx1 hx2 gb0 gb1 gb2
  have HS : RowKit.Hid (Rs w W0 b0 b1 b2 [.slice none 0 0, .slice none 0 0] L) := Lib.hid ⟨HB0.out, HX0.out, HX2.out, ⟨A, n, c, HX1.out, HR0.out.bl HB0.out, by omega, HR0.out.low⟩, ⟨N02.out, Lb1.out, Lb2.out, Lb0.out⟩⟩
  have HO : RowKit.Hid (Ow w w.heap.size 33 4 (.slice none 0 0) 0 (rowsV eC []) W0) := Lib.hid ⟨World.ownsRow_nil _ _ _ _, HB0.out, Nat.le_refl _, HB0.out.size⟩
  clear HX0 HX1 HX2 HB0 HS0 HR0 N01 N02 N12 Gb0 Gb1 Gb2 Lb0 Lb1 Lb2
  go_wp2_with (first
    | (go_at_call 57
       refine (HCa.out _ _ HS.out.r).mono ?_
       rintro e w1 ⟨rfl, hra, hgr⟩
       have HS1 := Lib.hid (HS.out.call hra hgr)
       have HO1 : RowKit.Hid (Ow w w.heap.size 33 4 (.slice none 0 0) 0 (rowsV eC []) w1) := Lib.hid ⟨World.ownsRow_nil _ _ _ _, (HS.out.call hra hgr).b, Nat.le_refl _, (HS.out.call hra hgr).b.size⟩
       clear hra hgr))
  clear HS HO HCa
  go_loopw [15] (fun si wr => ∃ (i : Nat) (B2 : Option Addr) (k2 : Nat) (Es : List EC) (R : List Nat), i ≤ N1 ∧ si = .int .i64 i ∧ RowKit.Hid (Rs w wr b0 b1 b2 [.slice none 0 0, .slice B2 i k2] R) ∧ RowKit.Hid (Ow w w.heap.size 33 4 (.slice B2 i k2) i (rowsV eC Es) wr) ∧ RowKit.Hid (Es ++ rdEs (N1 - i) R = Ef ∧ rdEr (N1 - i) R = RE ∧ ∀ b ∈ R, b < 256)) (fun si _ => N1 - (intOf si).toNat)
  case atStart => exact ⟨0, none, 0, [], R1, by omega, rfl, HS1, HO1, Lib.hid ⟨HeE.out, HgR.out, Hb1.out⟩⟩
  case round =>
    clear HS1 HO1 HeE HgR Hb1
    obtain ⟨i, B2, k2, Es, R, hi_, rfl, HS, HO, HRl⟩ := hrel
    obtain ⟨wo, gwo⟩ : ∃ z, wr = z := ⟨_, rfl⟩
    rw [gwo] at HS HO ⊢
    clear gwo
    by_cases hin : i < N1
    · obtain ⟨q, gq⟩ : ∃ q, N1 - i = q + 1 := ⟨N1 - i - 1, by omega⟩
      have gq2 : N1 - (i + 1) = q := by omega
      obtain ⟨r1, r2, r3⟩ := HRl.out
      rw [gq] at r1 r2
      have r1' : Es ++ rdE R :: rdEs q (rdH R) = Ef := r1
      have r2' : rdEr q (rdH R) = RE := r2
      have r4 : ∀ b ∈ rdH R, b < 256 := fun b hb => r3 b (by
        unfold rdH rdL2 at hb
        exact List.mem_of_mem_drop (List.mem_of_mem_drop (List.mem_of_mem_drop (List.mem_of_mem_drop hb))))
      have HH := Lib.hid (head_at w.heap.size b1 R wo HS.out.r r3)
      have hE : rdE R = (rdId R, rdTx R, rdAt R) := rfl
      rw [hE] at r1'
      obtain ⟨⟨i1, i2⟩, gid⟩ : ∃ z, rdId R = z := ⟨_, rfl⟩
      obtain ⟨tx, gtx⟩ : ∃ z, rdTx R = z := ⟨_, rfl⟩
      obtain ⟨av, gav⟩ : ∃ z, rdAt R = z := ⟨_, rfl⟩
      obtain ⟨Rn, gRn⟩ : ∃ z, rdH R = z := ⟨_, rfl⟩
      rw [gid, gtx, gav, gRn] at r1' HH
      rw [gRn] at r2' r4
      have HRn : RowKit.Hid ((Es ++ [((i1, i2), tx, av)]) ++ rdEs (N1 - (i + 1)) Rn = Ef ∧ rdEr (N1 - (i + 1)) Rn = RE ∧ ∀ b ∈ Rn, b < 256) := Lib.hid (by
        rw [gq2]
        exact ⟨by rw [List.append_assoc]; exact r1', r2', r4⟩)
      clear r1 r2 r3 r1' r2' r4 hE gid gtx gav gRn gq gq2
      go_upto_region 6 with (first
        | (go_at_call 58
           refine HH.out.mono ?_
           rintro e w2 ⟨rfl, hra, hgr⟩
           have HS2 := Lib.hid ((HS.out.call hra hgr).al (.cells #[.int .i64 i1, .int .i64 i2] 31))
           obtain ⟨c0, hwg⟩ := HS.out.r.whole
           have HO2 : RowKit.Hid (Ow w w.heap.size 33 4 (.slice B2 i k2) i (rowsV eC Es) (w2.alloc (.cells #[.int .i64 i1, .int .i64 i2] 31))) := Lib.hid (Ow.up ⟨own_call (q := 0) (cs := []) (T' := 33) HO.out.own hgr (own_ne HO.out.own hwg (by decide)), (HS.out.call hra hgr).b, Nat.le_refl _, (HS.out.call hra hgr).b.size⟩ (below1 _ _))
           have HI2 : RowKit.Hid (Whole (w2.alloc (.cells #[.int .i64 i1, .int .i64 i2] 31)) w2.heap.size 31 [.int .i64 i1, .int .i64 i2]) := Lib.hid (Whole.new_ _ _ [_, _])
           clear hra hgr hwg))
      clear HH HS HO
      obtain ⟨w3, gw3⟩ : ∃ z, w2.alloc (.cells #[.int .i64 i1, .int .i64 i2] 31) = z := ⟨_, rfl⟩
      obtain ⟨b5, gb5⟩ : ∃ z, w2.heap.size = z := ⟨_, rfl⟩
      rw [gw3] at HS2 HO2 HI2 ⊢
      rw [gb5] at HI2 ⊢
      clear gw3 gb5
      have d1 := HS2.out.x2.cell (i := 1) rfl
      have j0 := HI2.out.cell (i := 0) rfl
      have j1 := HI2.out.cell (i := 1) rfl
      refine wp_region_lit ?_
      refine wl_read (v := ?_) (some 22) rfl (by rfl) ?_ ?_
      rotate_left
      · go_simp; (try with_reducible rfl)
      simp only [Act.put, List.setIfInBounds_toArray, List.set_cons_zero, List.set_cons_succ]
      refine wl_read (v := ?_) (some 23) rfl (by rfl) ?_ ?_
      rotate_left
      · go_simp; (try with_reducible rfl)
      simp only [Act.put, List.setIfInBounds_toArray, List.set_cons_zero, List.set_cons_succ]
      refine wl_read (v := ?_) (some 24) rfl (by rfl) ?_ ?_
      rotate_left
      · go_simp; (try with_reducible rfl)
      simp only [Act.put, List.setIfInBounds_toArray, List.set_cons_zero, List.set_cons_succ]
      refine wl_read (v := ?_) (some 25) rfl (by rfl) ?_ ?_
      rotate_left
      · go_simp; (try with_reducible rfl)
      simp only [Act.put, List.setIfInBounds_toArray, List.set_cons_zero, List.set_cons_succ]
      refine wl_read (v := ?_) (some 26) rfl (by rfl) ?_ ?_
      rotate_left
      · go_simp; (try with_reducible rfl)
      simp only [Act.put, List.setIfInBounds_toArray, List.set_cons_zero, List.set_cons_succ]
      refine wl_read (v := ?_) (some 27) rfl (by rfl) ?_ ?_
      rotate_left
      · go_simp; (try with_reducible rfl)
      simp only [Act.put, List.setIfInBounds_toArray, List.set_cons_zero, List.set_cons_succ]
      clear d1 j0 j1 HI2
      refine wl_buildSlice (some 28) rfl (by rfl) 23 33 1 #[(0, .tmp 27)] (by rfl) Try.underlying23 (eC ((i1, i2), tx, av)).toArray (by kernel_rfl) ?_
      simp only [Act.put, List.setIfInBounds_toArray, List.set_cons_zero, List.set_cons_succ]
      have HSa := Lib.hid (HS2.out.al (.cells (eC ((i1, i2), tx, av)).toArray 33))
      have HOa := Lib.hid (Ow.up HO2.out (below1 w3 (.cells (eC ((i1, i2), tx, av)).toArray 33)))
      obtain ⟨B3, k3, w4, hrun, ho4, hg4⟩ := appE 23 HOa.out (RdS.of_whole (size := 4) (n := 1) (Whole.new_ w3 33 (eC ((i1, i2), tx, av))) rfl) (by omega)
      refine wl_run (some 29) rfl (by rfl) (exec_append (by rfl) (by rfl) (by rfl) hrun) ?_
      simp only [Act.put, List.setIfInBounds_toArray, List.set_cons_zero, List.set_cons_succ]
      have HS4 := Lib.hid (HSa.out.own HOa.out.own (Nat.le_refl _) (by decide) (by decide) hg4)
      have HO4 := Lib.hid ho4
      clear hrun ho4 hg4 HS2 HO2 HSa HOa
      have d1 := HS4.out.x2.cell (i := 1) rfl
      have f1 := HS4.out.x2.free 1
      have HS5 := Lib.hid (HS4.out.setd 1 rfl (fun b e => by cases e) (.slice B3 (i + 1) k3))
      have HO5 : RowKit.Hid (Ow w w.heap.size 33 4 (.slice B3 (i + 1) k3) (i + 1) (rowsV eC (Es ++ [((i1, i2), tx, av)])) (w4.setCell ⟨b2, 1, none⟩ (.slice B3 (i + 1) k3))) := Lib.hid ⟨own_cell_far HO4.out.own (own_ne HO4.out.own HS4.out.x2 (by decide)) _, (HS4.out.setd 1 rfl (fun b e => by cases e) (.slice B3 (i + 1) k3)).b, Nat.le_refl _, (HS4.out.setd 1 rfl (fun b e => by cases e) (.slice B3 (i + 1) k3)).b.size⟩
      clear HS4 HO4 HRl
      go_wp2
      go_roundw
      case rel => exact ⟨i + 1, B3, k3, _, Rn, by omega, by go_num, HS5, HO5, HRn⟩
      case measure => simp [intOf] <;> omega
    · obtain rfl : N1 = i := by omega
      obtain ⟨r1, r2, r3⟩ := HRl.out
      rw [Nat.sub_self] at r1 r2
      have r1' : Es = Ef := by rw [← r1]; exact (List.append_nil _).symm
      have r2' : R = RE := r2
      subst r1' r2'
      have HCb := Lib.hid (count_at w.heap.size b1 R wo HS.out.r r3)
      have hc2 := byte_lt r3
      obtain ⟨N2, gN2⟩ : ∃ z, c1 R = z := ⟨_, rfl⟩
      have HeV2 := HeV
      rw [gN2] at HeV2 HCb hc2
      have Hb2 : RowKit.Hid (∀ b ∈ R.drop 1, b < 256) := Lib.hid (fun b q => r3 b (List.mem_of_mem_drop q))
      obtain ⟨R2, gR2⟩ : ∃ z, R.drop 1 = z := ⟨_, rfl⟩
      rw [gR2] at HeV2 HCb Hb2
      clear gN2 gR2 r1 r2 r3 HRl
      go_wp2_with (first
        | (go_at_call 57
           refine HCb.out.mono ?_
           rintro e w1 ⟨rfl, hra, hgr⟩
           have HS1 := Lib.hid (HS.out.call hra hgr)
           obtain ⟨c0, hwg⟩ := HS.out.r.whole
           have HC1 : RowKit.Hid (ClS w1 w.heap.size none 0 0 [] B2 N1 k2 Es) := Lib.hid ⟨World.ownsRow_nil _ _ _ _, own_call (q := 0) (cs := []) (T' := 33) HO.out.own hgr (own_ne HO.out.own hwg (by decide)), fun x hx => (by cases hx)⟩
           clear hra hgr hwg))
      clear HS HO HCb HeV
      go_loopw [33] (fun si wr => ∃ (j : Nat) (A2 : Option Addr) (c2 : Nat) (Ws : List VC) (R : List Nat), j ≤ N2 ∧ si = .int .i64 j ∧ RowKit.Hid (Rs w wr b0 b1 b2 [.slice A2 j c2, .slice B2 N1 k2] R) ∧ RowKit.Hid (ClS wr w.heap.size A2 j c2 Ws B2 N1 k2 Es) ∧ RowKit.Hid (Ws.map vS ++ rdVs Es (N2 - j) R = Vf ∧ ∀ b ∈ R, b < 256)) (fun si _ => N2 - (intOf si).toNat)
      case atStart => exact ⟨0, none, 0, [], R2, by omega, rfl, HS1, HC1, Lib.hid ⟨HeV2.out, Hb2.out⟩⟩
      case round =>
        clear HS1 HC1 HeV2 Hb2
        obtain ⟨j, A2, c2, Ws, R, hj_, rfl, HS, HC, HRl⟩ := hrel
        obtain ⟨wo, gwo⟩ : ∃ z, wr = z := ⟨_, rfl⟩
        rw [gwo] at HS HC ⊢
        clear gwo
        by_cases hjn : j < N2
        · obtain ⟨q, gq⟩ : ∃ q, N2 - j = q + 1 := ⟨N2 - j - 1, by omega⟩
          have gq2 : N2 - (j + 1) = q := by omega
          obtain ⟨r1, r3⟩ := HRl.out
          rw [gq] at r1
          have r1' : Ws.map vS ++ rdV Es R :: rdVs Es q (rdW R) = Vf := r1
          have r4 : ∀ b ∈ rdH R, b < 256 := fun b hb => r3 b (by
            unfold rdH rdL2 at hb
            exact List.mem_of_mem_drop (List.mem_of_mem_drop (List.mem_of_mem_drop (List.mem_of_mem_drop hb))))
          have r5 : ∀ b ∈ (rdH R).drop 1, b < 256 := fun b hb => r4 b (List.mem_of_mem_drop hb)
          have r6 : ∀ b ∈ rdW R, b < 256 := fun b hb => r5 b (List.mem_of_mem_drop hb)
          have HH := Lib.hid (head_at w.heap.size b1 R wo HS.out.r r3)
          have hE : rdV Es R = (rdId R, (nx (c1 (rdH R)) ((rdH R).drop 1)).map (rdD Es), rdTx R, rdAt R) := rfl
          have hW : rdW R = ((rdH R).drop 1).drop (c1 (rdH R)) := rfl
          rw [hE] at r1'
          obtain ⟨⟨i1, i2⟩, gid⟩ : ∃ z, rdId R = z := ⟨_, rfl⟩
          obtain ⟨tx, gtx⟩ : ∃ z, rdTx R = z := ⟨_, rfl⟩
          obtain ⟨av, gav⟩ : ∃ z, rdAt R = z := ⟨_, rfl⟩
          obtain ⟨Rw, gRw⟩ : ∃ z, rdW R = z := ⟨_, rfl⟩
          obtain ⟨Rn, gRn⟩ : ∃ z, rdH R = z := ⟨_, rfl⟩
          rw [gid, gtx, gav, gRw, gRn] at r1'
          rw [gid, gtx, gav, gRn] at HH
          rw [gRn, gRw] at hW
          rw [gRn] at r4 r5
          rw [gRw] at r6
          have HCc := Lib.hid (fun W h => count_at w.heap.size b1 Rn W h r4)
          have hc3 := byte_lt r4
          obtain ⟨N3, gN3⟩ : ∃ z, c1 Rn = z := ⟨_, rfl⟩
          obtain ⟨R0, gR0⟩ : ∃ z, Rn.drop 1 = z := ⟨_, rfl⟩
          rw [gN3] at r1' HCc hc3 hW
          rw [gR0] at r1' HCc hW r5
          have HW0 : RowKit.Hid (R0.drop N3 = Rw) := Lib.hid hW.symm
          have Hb5 := Lib.hid r5
          have HRn : RowKit.Hid (∀ (A9 : Option Addr) (n9 c9 : Nat) (L9 : List D), L9 = (nx N3 R0).map (rdD Es) → (Ws ++ [((i1, i2), (A9, n9, c9, L9), tx, av)]).map vS ++ rdVs Es (N2 - (j + 1)) Rw = Vf ∧ ∀ b ∈ Rw, b < 256) := Lib.hid (fun A9 n9 c9 L9 h => by
            rw [gq2]
            refine ⟨?_, r6⟩
            rw [List.map_append, List.append_assoc]
            subst h
            exact r1')
          clear r1 r3 r1' r4 r5 r6 hE hW gid gtx gav gRn gRw gN3 gR0 gq gq2 HRl
          go_upto_region 11 with (first
            | (go_at_call 58
               refine HH.out.mono ?_
               rintro e w2 ⟨rfl, hra, hgr⟩
               have HS2 := Lib.hid ((HS.out.call hra hgr).al (.cells #[.int .i64 i1, .int .i64 i2] 31))
               obtain ⟨c0, hwg⟩ := HS.out.r.whole
               have HC2 := Lib.hid ((HC.out.call hgr hwg (by decide) (by decide) (by decide)).al (.cells #[.int .i64 i1, .int .i64 i2] 31))
               have HI2 : RowKit.Hid (Whole (w2.alloc (.cells #[.int .i64 i1, .int .i64 i2] 31)) w2.heap.size 31 [.int .i64 i1, .int .i64 i2]) := Lib.hid (Whole.new_ _ _ [_, _])
               clear hra hgr hwg))
          clear HH HS HC
          obtain ⟨w3, gw3⟩ : ∃ z, w2.alloc (.cells #[.int .i64 i1, .int .i64 i2] 31) = z := ⟨_, rfl⟩
          obtain ⟨b8, gb8⟩ : ∃ z, w2.heap.size = z := ⟨_, rfl⟩
          rw [gw3] at HS2 HC2 HI2 ⊢
          rw [gb8] at HI2 ⊢
          clear gw3 gb8
          have j0 := HI2.out.cell (i := 0) rfl
          have j1 := HI2.out.cell (i := 1) rfl
          go_upto_region 12 with fail
          clear j0 j1 HI2
          have HS3 := Lib.hid (HS2.out.al (.cells #[.int .i64 i1, .int .i64 i2, .slice none 0 0, .string tx, .int .i64 av] 38))
          have HC3 := Lib.hid (HC2.out.al (.cells #[.int .i64 i1, .int .i64 i2, .slice none 0 0, .string tx, .int .i64 av] 38))
          have HV3 : RowKit.Hid (Whole (w3.alloc (.cells #[.int .i64 i1, .int .i64 i2, .slice none 0 0, .string tx, .int .i64 av] 38)) w3.heap.size 38 [.int .i64 i1, .int .i64 i2, .slice none 0 0, .string tx, .int .i64 av]) := Lib.hid (Whole.new_ _ _ [_, _, _, _, _])
          have Hlv : RowKit.Hid (w.heap.size ≤ w3.heap.size) := Lib.hid HS2.out.b.size
          have Hvv : RowKit.Hid (some w3.heap.size ≠ (Value.slice A2 j c2).ownBlock) := Lib.hid (fun e => by have := (HC2.out.v.lt _ e.symm).2; omega)
          obtain ⟨w4, gw4⟩ : ∃ z, w3.alloc (.cells #[.int .i64 i1, .int .i64 i2, .slice none 0 0, .string tx, .int .i64 av] 38) = z := ⟨_, rfl⟩
          obtain ⟨b11, gb11⟩ : ∃ z, w3.heap.size = z := ⟨_, rfl⟩
          rw [gw4] at HS3 HC3 HV3 ⊢
          rw [gb11] at HV3 Hlv Hvv ⊢
          clear gw4 gb11 HS2 HC2
          go_wp2_with (first
            | (go_at_call 57
               refine (HCc.out _ HS3.out.r).mono ?_
               rintro e w5 ⟨rfl, hra, hgr⟩
               have HS5 := Lib.hid (HS3.out.call hra hgr)
               obtain ⟨c0, hwg⟩ := HS3.out.r.whole
               have HC5 := Lib.hid (HC3.out.call hgr hwg (by decide) (by decide) (by decide))
               have HV5 := Lib.hid (HV3.out.grown hgr (fun e => HV3.out.ne_ hwg (by decide) (Option.some.inj e)))
               clear hra hgr hwg))
          clear HS3 HC3 HV3 HCc
          have HOw : RowKit.Hid (w5.ownsRow w5.heap.size 35 3 (.slice none 0 0) 0 (dartsV [])) := Lib.hid (World.ownsRow_nil _ _ _ _)
          have Hlo5 : RowKit.Hid (w.heap.size ≤ w5.heap.size ∧ w5.heap.size ≤ w5.heap.size) := Lib.hid ⟨HS5.out.b.size, Nat.le_refl _⟩
          have Hfar : RowKit.Hid (∀ x ∈ Ws, ∀ kk, (Value.slice x.2.1.1 x.2.1.2.1 x.2.1.2.2.1).ownBlock = some kk → kk < w5.heap.size) := Lib.hid (fun x hx kk e => ((HC5.out.r x hx).lt kk e).2)
          obtain ⟨lo5, glo5⟩ : ∃ z, w5.heap.size = z := ⟨_, rfl⟩
          have Hlo6 : RowKit.Hid (w.heap.size ≤ lo5 ∧ lo5 ≤ w5.heap.size) := Lib.hid (by rw [← glo5]; exact Hlo5.out)
          rw [glo5] at HOw Hfar
          clear glo5 Hlo5
          go_loopw [45] (fun si wr => ∃ (t : Nat) (A3 : Option Addr) (c3 : Nat) (ds : List D), t ≤ N3 ∧ si = .int .i64 t ∧ RowKit.Hid (Rs w wr b0 b1 b2 [.slice A2 j c2, .slice B2 N1 k2] (R0.drop t)) ∧ RowKit.Hid (ClS wr w.heap.size A2 j c2 Ws B2 N1 k2 Es) ∧ RowKit.Hid (Whole wr b11 38 [.int .i64 i1, .int .i64 i2, .slice A3 t c3, .string tx, .int .i64 av]) ∧ RowKit.Hid (wr.ownsRow lo5 35 3 (.slice A3 t c3) t (dartsV ds)) ∧ RowKit.Hid (w.heap.size ≤ lo5 ∧ lo5 ≤ wr.heap.size) ∧ RowKit.Hid (ds = ((nx N3 R0).take t).map (rdD Es))) (fun si _ => N3 - (intOf si).toNat)
          case atStart => exact ⟨0, none, 0, [], by omega, rfl, HS5, HC5, HV5, HOw, Hlo6, Lib.hid rfl⟩
          case round =>
            clear HS5 HC5 HV5 HOw Hlo6
            obtain ⟨t, A3, c3, ds, ht_, rfl, HS, HC, HV, HO, Hlo, Hds⟩ := hrel
            obtain ⟨wi, gwi⟩ : ∃ z, wr = z := ⟨_, rfl⟩
            rw [gwi] at HS HC HV HO Hlo ⊢
            clear gwi
            by_cases htn : t < N3
            · have hnx := nx_get R0 htn
              have hb6 : ∀ b ∈ R0.drop t, b < 256 := fun b hb => Hb5.out b (List.mem_of_mem_drop hb)
              have hds : ds ++ [rdD Es (c1 (R0.drop t))] = ((nx N3 R0).take (t + 1)).map (rdD Es) := by
                rw [List.take_add_one, hnx, List.map_append, Hds.out]
                rfl
              have HDa := Lib.hid (fun W h1 h2 h3 => dart_at w.heap.size b1 (R0.drop t) B2 N1 k2 Es W h1 hb6 h2 h3)
              rw [List.drop_drop] at HDa
              obtain ⟨⟨x1, x2, x3⟩, gx⟩ : ∃ z, rdD Es (c1 (R0.drop t)) = z := ⟨_, rfl⟩
              rw [gx] at HDa hds
              have Hdn := Lib.hid hds
              clear hnx hb6 hds gx Hds
              go_upto_region 14 with fail
              obtain ⟨c0, hwg⟩ := HS.out.r.whole
              have HWg := Lib.hid hwg
              have Hs1 : RowKit.Hid (¬ (b11 = b1 ∨ some b11 = (Value.slice A3 t c3).ownBlock ∨ wi.heap.size ≤ b11)) := Lib.hid (fun e => by
                rcases e with e | e | e
                · exact HV.out.ne_ hwg (by decide) e
                · exact own_ne HO.out HV.out (by decide) e
                · exact absurd HV.out.lt (by omega))
              have Hs2 : RowKit.Hid (¬ (b2 = b1 ∨ some b2 = (Value.slice A3 t c3).ownBlock ∨ wi.heap.size ≤ b2)) := Lib.hid (fun e => by
                rcases e with e | e | e
                · exact HS.out.x2.ne_ hwg (by decide) e
                · exact own_ne HO.out HS.out.x2 (by decide) e
                · exact absurd HS.out.x2.lt (by omega))
              have HDr : RowKit.Hid (Ext wi wi.drew) := Lib.hid (below_drewN wi.heap.size wi 1)
              have ld0 : ∀ w', Kept (fun i => i = b1 ∨ some i = (Value.slice A3 t c3).ownBlock ∨ wi.heap.size ≤ i) wi.drew w' → w'.cell? ⟨b11, 2, none⟩ = some (.slice A3 t c3) := fun w' h => h.cell (HV.out.dr.cell (i := 2) rfl) Hs1.out
              have ld1 : ∀ w', Kept (fun i => i = b1 ∨ some i = (Value.slice A3 t c3).ownBlock ∨ wi.heap.size ≤ i) wi.drew w' → w'.cell? ⟨b2, 1, none⟩ = some (.slice B2 N1 k2) := fun w' h => h.cell (HS.out.x2.dr.cell (i := 1) rfl) Hs2.out
              clear hwg
              refine wp_region_tail (fun i => i = b1 ∨ some i = (Value.slice A3 t c3).ownBlock ∨ wi.heap.size ≤ i) [8] (by kernel_rfl) ?_
              apply wpT_next 0 (some 47) (by kernel_rfl)
              · simp only [List.getElem?_toArray, List.getElem?_cons_succ, List.getElem?_cons_zero]; exact rfl
              · rfl
              · kernel_rfl
              · kernel_rfl
              · kernel_rfl
              · exact fun _ _ _ _ h => h
              apply Exists.intro
              apply And.intro
              · apply yr_run; rfl; intro w' hw'; go_simp; (try with_reducible rfl)
              simp only [Act.put, List.setIfInBounds_toArray, List.set_cons_zero, List.set_cons_succ]
              apply wpT_next 1 (some 48) (by kernel_rfl)
              · simp only [List.getElem?_toArray, List.getElem?_cons_succ, List.getElem?_cons_zero]; exact rfl
              · rfl
              · kernel_rfl
              · kernel_rfl
              · kernel_rfl
              · exact fun _ _ _ _ h => h
              apply Exists.intro
              apply And.intro
              · apply yr_run; rfl; intro w' hw'; go_simp; (try with_reducible rfl)
              simp only [Act.put, List.setIfInBounds_toArray, List.set_cons_zero, List.set_cons_succ]
              apply wpT_next 2 (some 49) (by kernel_rfl)
              · simp only [List.getElem?_toArray, List.getElem?_cons_succ, List.getElem?_cons_zero]; exact rfl
              · rfl
              · kernel_rfl
              · kernel_rfl
              · kernel_rfl
              · exact fun _ _ _ _ h => h
              apply Exists.intro
              apply And.intro
              · apply yr_run; rfl; intro w' hw'; go_simp; (try with_reducible rfl)
              simp only [Act.put, List.setIfInBounds_toArray, List.set_cons_zero, List.set_cons_succ]
              apply wpT_next 3 (some 50) (by kernel_rfl)
              · simp only [List.getElem?_toArray, List.getElem?_cons_succ, List.getElem?_cons_zero]; exact rfl
              · rfl
              · kernel_rfl
              · kernel_rfl
              · kernel_rfl
              · exact fun _ _ _ _ h => h
              apply Exists.intro
              apply And.intro
              · apply yr_run; rfl; intro w' hw'; go_simp; (try with_reducible rfl)
              simp only [Act.put, List.setIfInBounds_toArray, List.set_cons_zero, List.set_cons_succ]
              apply wpT_call 4 (some 51)
              · simp only [List.getElem?_toArray, List.getElem?_cons_succ, List.getElem?_cons_zero]; exact rfl
              · rfl
              · kernel_rfl
              · rfl
              · intro w'; go_simp; first | done | exact ⟨rfl, rfl⟩ | with_reducible rfl
              intro w' hw'
              have hE := Ext.trans HDr.out hw'
              have hSe := HS.out.bl hE
              have hCe := HC.out.bl hE
              refine (HDa.out w' hSe.r (own_rds hCe.e) (fun a ha hm e => by
                obtain ⟨c9, hw9⟩ := hSe.r.whole
                exact own_ne hCe.e hw9 (by decide) (by subst ha; rw [← e]; rfl))).mono ?_
              rintro e w1 ⟨rfl, hra, hgr⟩
              refine ⟨_, rfl, kept_grow hgr (fun i e => .inl (Option.some.inj e)), ?_⟩
              obtain ⟨c9, hw9⟩ := hSe.r.whole
              have HS1 := Lib.hid (hSe.call hra hgr)
              have HC1 := Lib.hid (hCe.call hgr hw9 (by decide) (by decide) (by decide))
              have HV1 := Lib.hid ((HV.out.bl hE).grown hgr (fun e => (HV.out.bl hE).ne_ hw9 (by decide) (Option.some.inj e)))
              have HO1 := Lib.hid (own_call (q := 0) (cs := []) (T' := 33) (own_up HO.out hE) hgr (own_ne (own_up HO.out hE) hw9 (by decide)))
              have Hlo1 : RowKit.Hid (w.heap.size ≤ lo5 ∧ lo5 ≤ w1.heap.size ∧ wi.heap.size ≤ w1.heap.size) := Lib.hid ⟨Hlo.out.1, Nat.le_trans Hlo.out.2 (Nat.le_trans hE.size hgr.size), Nat.le_trans hE.size hgr.size⟩
              clear hE hSe hCe hra hgr hw9 hw' ld0 ld1 HS HC HV HO Hlo HDa
              simp only [Act.put, List.setIfInBounds_toArray, List.set_cons_zero, List.set_cons_succ]
              apply wpT_run 5 (some 52)
              · simp only [List.getElem?_toArray, List.getElem?_cons_succ, List.getElem?_cons_zero]; exact rfl
              · rfl
              · kernel_rfl
              · rfl
              intro w' hw'
              refine ⟨.slice (some ⟨w'.heap.size, 0, none⟩) 1 1, w'.alloc (.cells #[.int .i64 x1, .int .i64 x2, .int .i64 x3] 35), by (go_simp; first | done | exact rfl | exact ⟨rfl, rfl⟩), Kept.of_below (below1 _ _), ?_⟩
              have hE := Ext.trans hw' (below1 w' (.cells #[.int .i64 x1, .int .i64 x2, .int .i64 x3] 35))
              have HS2 := Lib.hid (HS1.out.bl hE)
              have HC2 := Lib.hid (HC1.out.bl hE)
              have HV2 := Lib.hid (HV1.out.bl hE)
              have HO2 := Lib.hid (own_up HO1.out hE)
              have Hlo2 : RowKit.Hid (w.heap.size ≤ lo5 ∧ lo5 ≤ (w'.alloc (.cells #[.int .i64 x1, .int .i64 x2, .int .i64 x3] 35)).heap.size ∧ wi.heap.size ≤ (w'.alloc (.cells #[.int .i64 x1, .int .i64 x2, .int .i64 x3] 35)).heap.size) := Lib.hid ⟨Hlo1.out.1, Nat.le_trans Hlo1.out.2.1 hE.size, Nat.le_trans Hlo1.out.2.2 hE.size⟩
              have HQ2 : RowKit.Hid (RdS (w'.alloc (.cells #[.int .i64 x1, .int .i64 x2, .int .i64 x3] 35)) (w'.alloc (.cells #[.int .i64 x1, .int .i64 x2, .int .i64 x3] 35)).heap.size 3 (some ⟨w'.heap.size, 0, none⟩) 1 1 [.int .i64 x1, .int .i64 x2, .int .i64 x3]) := Lib.hid (RdS.of_whole (size := 3) (n := 1) (Whole.new_ _ _ [_, _, _]) rfl)
              obtain ⟨wb, gwb⟩ : ∃ z, w'.alloc (.cells #[.int .i64 x1, .int .i64 x2, .int .i64 x3] 35) = z := ⟨_, rfl⟩
              obtain ⟨ab, gab⟩ : ∃ z, w'.heap.size = z := ⟨_, rfl⟩
              rw [gwb] at HS2 HC2 HV2 HO2 Hlo2 HQ2 ⊢
              rw [gab] at HQ2 ⊢
              clear gwb gab hE hw' HS1 HC1 HV1 HO1 Hlo1
              simp only [Act.put, List.setIfInBounds_toArray, List.set_cons_zero, List.set_cons_succ]
              apply wpT_run 6 (some 53)
              · simp only [List.getElem?_toArray, List.getElem?_cons_succ, List.getElem?_cons_zero]; exact rfl
              · rfl
              · kernel_rfl
              · rfl
              intro w' hw'
              have hO := own_up HO2.out hw'
              obtain ⟨A4, c4, w3, hrun, ho3, hg3⟩ := appD 36 (Nat.le_trans Hlo2.out.2.1 hw'.size) hO (HQ2.out.bl hw') (by omega)
              refine ⟨_, w3, exec_append (by rfl) (by rfl) (by rfl) hrun, kept_grow hg3 (fun i e => .inr (.inl e)), ?_⟩
              have hS := HS2.out.bl hw'
              have hC := HC2.out.bl hw'
              have HS3 := Lib.hid (hS.own hO Hlo2.out.1 (by decide) (by decide) hg3)
              have HV3 := Lib.hid ((HV2.out.bl hw').grown hg3 (own_ne hO (HV2.out.bl hw') (by decide)))
              have HC3 := Lib.hid (hC.grow hg3 (keep2 hO hC.v (by decide)) (keep2 hO hC.e (by decide)) (fun x hx => by
                cases hq : (Value.slice x.2.1.1 x.2.1.2.1 x.2.1.2.2.1).ownBlock with
                | none => exact .inl rfl
                | some kk =>
                  refine .inr (fun e => ?_)
                  have h1 := (hO.lt kk e.symm).1
                  have h2 := Hfar.out x hx kk hq
                  omega))
              have HO3 := Lib.hid ho3
              have Hlo3 : RowKit.Hid (w.heap.size ≤ lo5 ∧ lo5 ≤ w3.heap.size) := Lib.hid ⟨Hlo2.out.1, Nat.le_trans (Nat.le_trans Hlo2.out.2.1 hw'.size) hg3.size⟩
              clear hO hrun ho3 hg3 hS hC hw' HS2 HC2 HV2 HO2 HQ2 Hlo2
              simp only [Act.put, List.setIfInBounds_toArray, List.set_cons_zero, List.set_cons_succ]
              apply wpT_next 7 (some 54) (by kernel_rfl)
              · simp only [List.getElem?_toArray, List.getElem?_cons_succ, List.getElem?_cons_zero]; exact rfl
              · rfl
              · kernel_rfl
              · kernel_rfl
              · kernel_rfl
              · exact fun _ _ _ _ h => h
              apply Exists.intro
              apply And.intro
              · apply yr_run; rfl; intro w' hw'; go_simp; (try with_reducible rfl)
              simp only [Act.put, List.setIfInBounds_toArray, List.set_cons_zero, List.set_cons_succ]
              apply wpT_last 8
              · simp only [List.getElem?_toArray, List.getElem?_cons_succ, List.getElem?_cons_zero]; exact rfl
              · rfl
              · kernel_rfl
              · rfl
              · decide
              intro w' hw'
              have hS := HS3.out.bl hw'
              have hV := HV3.out.bl hw'
              have hC := HC3.out.bl hw'
              have hO := own_up HO3.out hw'
              have q2 := hV.cell (i := 2) rfl
              have f2 := hV.free 2
              refine ⟨w'.setCell ⟨b11, 2, none⟩ (.slice A4 (t + 1) c4), by (go_simp; first | done | exact rfl | exact ⟨rfl, rfl⟩), ?_⟩
              have HS8 := Lib.hid (hS.setx hV (i := 2) (by decide) (by decide) Hlv.out rfl (fun b e => by cases e) (.slice A4 (t + 1) c4))
              have HC8 := Lib.hid (hC.far2 (i := 2) hV Hvv.out (.slice A4 (t + 1) c4))
              have HV8 := Lib.hid (hV.set_ 2 (.slice A4 (t + 1) c4))
              have HO8 := Lib.hid (own_cell_far (i := 2) hO (own_ne hO hV (by decide)) (.slice A4 (t + 1) c4))
              have Hlo8 : RowKit.Hid (w.heap.size ≤ lo5 ∧ lo5 ≤ (w'.setCell ⟨b11, 2, none⟩ (.slice A4 (t + 1) c4)).heap.size) := Lib.hid ⟨Hlo3.out.1, by have h1 := Nat.le_trans Hlo3.out.2 hw'.size; simpa using h1⟩
              obtain ⟨w5_, gw5⟩ : ∃ z, w'.setCell ⟨b11, 2, none⟩ (.slice A4 (t + 1) c4) = z := ⟨_, rfl⟩
              rw [gw5] at HS8 HC8 HV8 HO8 Hlo8 ⊢
              clear gw5 hS hV hC hO q2 f2 hw' HS3 HC3 HV3 HO3 Hlo3
              try simp only [Act.put, List.setIfInBounds_toArray, List.set_cons_zero, List.set_cons_succ]
              refine wpT_done (by kernel_rfl) ?_ _
              intro w9 hw9
              have HS9 := Lib.hid (HS8.out.bl hw9)
              have HC9 := Lib.hid (HC8.out.bl hw9)
              have HV9 := Lib.hid (HV8.out.bl hw9)
              have HO9 := Lib.hid (own_up HO8.out hw9)
              have Hlo9 : RowKit.Hid (w.heap.size ≤ lo5 ∧ lo5 ≤ w9.heap.size) := Lib.hid ⟨Hlo8.out.1, Nat.le_trans Hlo8.out.2 hw9.size⟩
              clear hw9 HS8 HC8 HV8 HO8 Hlo8
              replace HV9 : RowKit.Hid (Whole w9 b11 38 [.int .i64 i1, .int .i64 i2, .slice A4 (t + 1) c4, .string tx, .int .i64 av]) := HV9
              go_wp2
              go_roundw
              case rel => exact ⟨t + 1, A4, c4, _, by omega, by go_num, HS9, HC9, HV9, HO9, Hlo9, Hdn⟩
              case measure => simp [intOf] <;> omega
            · obtain rfl : N3 = t := by omega
              have hds := Hds.out
              rw [List.take_of_length_le (by rw [nx_len]; omega)] at hds
              have HRz := Lib.hid (HRn.out A3 N3 c3 ds hds)
              rw [HW0.out] at HS
              replace HV : RowKit.Hid (Whole wi b11 38 (vC ((i1, i2), (A3, N3, c3, ds), tx, av))) := HV
              obtain ⟨iV, hiv, hzv0, hzv1, hzv2⟩ := info_partsD info_vertex
              clear hds Hds HRn
              go_upto_region 16 with fail
              have d0 := HS.out.x2.cell (i := 0) rfl
              refine wp_region_lit ?_
              refine wl_read (v := ?_) (some 56) rfl (by rfl) ?_ ?_
              rotate_left
              · go_simp; (try with_reducible rfl)
              simp only [Act.put, List.setIfInBounds_toArray, List.set_cons_zero, List.set_cons_succ]
              refine wl_read (v := ?_) (some 57) rfl (by rfl) ?_ ?_
              rotate_left
              · go_simp; (try with_reducible rfl)
              simp only [Act.put, List.setIfInBounds_toArray, List.set_cons_zero, List.set_cons_succ]
              refine wl_load (some 58) rfl (by rfl) 38 (.tmp 11) rfl (b11) rfl 38 (vC ((i1, i2), (A3, N3, c3, ds), tx, av)) _ HV.out Try.underlying38 rfl (by kernel_rfl) ?_
              simp only [Act.put, List.setIfInBounds_toArray, List.set_cons_zero, List.set_cons_succ]
              clear d0
              refine wl_buildSlice (some 59) rfl (by rfl) 22 38 1 #[(0, .tmp 58)] (by rfl) Try.underlying22 (vC ((i1, i2), (A3, N3, c3, ds), tx, av)).toArray (by kernel_rfl) ?_
              simp only [Act.put, List.setIfInBounds_toArray, List.set_cons_zero, List.set_cons_succ]
              have HOl := Lib.hid (own_lo0 HO.out Hlo.out.1)
              have HSa := Lib.hid (HS.out.al (.cells (vC ((i1, i2), (A3, N3, c3, ds), tx, av)).toArray 38))
              have HCa := Lib.hid (HC.out.al (.cells (vC ((i1, i2), (A3, N3, c3, ds), tx, av)).toArray 38))
              obtain ⟨A6, c6, w6, hrun, hC6, hb6, hg6⟩ := HCa.out.push (P := Try.prog) ((i1, i2), (A3, N3, c3, ds), tx, av) (own_up HOl.out (below1 _ _)) 22 22 iV _ Try.underlying22 hiv hzv0 hzv1 hzv2 rfl (by omega) (by have := HS.out.b.size; simp; omega) wi.heap.size (RdS.of_whole (Whole.new2 rfl) rfl)
              refine wl_run (some 60) rfl (by rfl) (exec_append (by rfl) (by rfl) (by rfl) hrun) ?_
              simp only [Act.put, List.setIfInBounds_toArray, List.set_cons_zero, List.set_cons_succ]
              have HS6 := Lib.hid (HSa.out.own HCa.out.v (Nat.le_refl _) (by decide) (by decide) hg6)
              have HC6 := Lib.hid hC6
              clear hrun hC6 hb6 hg6 HS HC HV HO HOl HSa HCa
              have d0 := HS6.out.x2.cell (i := 0) rfl
              have f0 := HS6.out.x2.free 0
              have HS7 := Lib.hid (HS6.out.setd 0 rfl (fun b e => by cases e) (.slice A6 (j + 1) c6))
              have HC7 := Lib.hid (HC6.out.far (i := 0) HS6.out.x2 (by decide) (by decide) (by decide) (.slice A6 (j + 1) c6))
              clear HS6 HC6
              go_wp2
              go_roundw
              case rel => exact ⟨j + 1, A6, c6, _, Rw, by omega, by go_num, HS7, HC7, HRz⟩
              case measure => simp [intOf] <;> omega
        · obtain rfl : N2 = j := by omega
          obtain ⟨r1, r3⟩ := HRl.out
          rw [Nat.sub_self] at r1
          have r1' : Ws.map vS = Vf := by rw [← r1]; exact (List.append_nil _).symm
          have Hr1 := Lib.hid r1'
          clear r1 r3 r1' HRl
          have d0 := HS.out.x2.cell (i := 0) rfl
          have d1 := HS.out.x2.cell (i := 1) rfl
          have e0 := HS.out.x0.cell (i := 0) rfl
          have e1 := HS.out.x0.cell (i := 1) rfl
          have f0 := HS.out.x0.free 0
          have f1 := HS.out.x0.free 1
          have g0 := HS.out.n
          go_wp2
          have HXz := (HS.out.x0.set_ 0 (.slice A2 N2 c2)).set_ 1 (.slice B2 N1 k2)
          have HBz := (HS.out.b.setCell (p := ⟨b0, 0, none⟩) g0.2.2.2 (.slice A2 N2 c2)).setCell (p := ⟨b0, 1, none⟩) g0.2.2.2 (.slice B2 N1 k2)
          have HCz := (HC.out.far (i := 0) HS.out.x0 (by decide) (by decide) (by decide) (.slice A2 N2 c2)).far (i := 1) (HS.out.x0.set_ 0 (.slice A2 N2 c2)) (by decide) (by decide) (by decide) (.slice B2 N1 k2)
          exact ret_whole rfl b0 rfl HXz Try.underlying25 rfl (by kernel_rfl) rfl ⟨A2, N2, c2, B2, N1, k2, Ws, rfl, HCz, Hr1.out, HBz⟩
end Go.Proofs.Ytahbfdhjgnlmdaa

/- One element taken out of a permutation: orbits are as many as they were, but for one that was alone. -/
namespace Go.Proofs.Ytahbfdhjgnlmdaa
open Go.RowKit
set_option linter.unusedSimpArgs false
set_option linter.unusedVariables false
section
variable {α : Type} {f f' : α → α} {L L' P : List α}
end
end Go.Proofs.Ytahbfdhjgnlmdaa

/- Edge by edge, in any order. -/
namespace Go.Proofs.Ytahbfdhjgnlmdaa
open Go.RowKit
set_option linter.unusedSimpArgs false
set_option linter.unusedVariables false

section
variable {Vs : List VC} {Es Fs : List EC}
end
end Go.Proofs.Ytahbfdhjgnlmdaa

/- The other way round: as many orbits of each length. -/
namespace Go.Proofs.Ytahbfdhjgnlmdaa
open Go.RowKit
set_option linter.unusedSimpArgs false
set_option linter.unusedVariables false
set_option linter.unusedSectionVars false
section
variable {α : Type} [DecidableEq α] {f f' u : α → α} {L P Q : List α}
end
end Go.Proofs.Ytahbfdhjgnlmdaa

/- The other way round: the turned diagram, its faces. -/
namespace Go.Proofs.Ytahbfdhjgnlmdaa
open Go.RowKit
set_option linter.unusedSimpArgs false
set_option linter.unusedVariables false

theorem nxV_same : ∀ (Us Ws : List VC) (f : D → Option D), Us.map (fun v => v.2.1.2.2.2) = Ws.map (fun v => v.2.1.2.2.2) → nxV Us f = nxV Ws f
  | [], [], _, _ => rfl
  | [], _ :: _, _, h => by cases h
  | _ :: _, [], _, h => by cases h
  | u :: r, v :: s, f, h => by
    rw [List.map_cons, List.map_cons] at h
    injection h with h1 h2
    rw [nxV, nxV, h1]
    exact nxV_same r s _ h2
theorem sigM_same {Us Ws : List VC} (h : Us.map vS = Ws.map vS) : sigM Us = sigM Ws := by
  have h1 := congrArg (List.map (fun s : (Int × Int) × List D × ByteArray × Int => s.2.1)) h
  rw [List.map_map, List.map_map] at h1
  exact nxV_same Us Ws _ h1
theorem phF_same {Us Ws : List VC} (h : Us.map vS = Ws.map vS) : phF Us = phF Ws := by
  funext y
  rw [phF, phF, sgF, sgF, sigM_same h]
section
variable {Vs Us : List VC} {Es : List EC}
end
end Go.Proofs.Ytahbfdhjgnlmdaa

/- An edge more between two vertices, in numbers: it joins their two parts, and no others. -/
namespace Go.Proofs.Ytahbfdhjgnlmdaa
open Go.RowKit
set_option linter.unusedSimpArgs false
set_option linter.unusedVariables false

def insX (b : Bool) (s : Int) (R : List D) : List D := if b then turnD (insR R (0, 0, 0) (8, 1048576, s)) else R
def gN (x y : I2) (v : VC) : (Int × Int) × List D × ByteArray × Int := (v.1, insX (decide (v.1 = y)) 1 (insX (decide (v.1 = x)) 0 v.2.1.2.2.2), v.2.2.1, v.2.2.2)
section
variable {Us Vs : List VC} {Es : List EC} {x y : I2}
end
end Go.Proofs.Ytahbfdhjgnlmdaa

/- An edge more, in numbers: rings, next darts, how many faces. -/
namespace Go.Proofs.Ytahbfdhjgnlmdaa
open Go.RowKit
set_option linter.unusedSimpArgs false
set_option linter.unusedVariables false

/-- Rings that hold what the other sides of their darts are: no word on edges. -/
structure Rung (Vs : List VC) : Prop where
  nd : (ringsOf Vs).Nodup
  ot : ∀ d ∈ ringsOf Vs, othD d ∈ ringsOf Vs
section
variable {Vs : List VC}
theorem Rung.phi (h : Rung Vs) : Pm (phF Vs) (ringsOf Vs) :=
  ⟨h.nd, fun x hx => (sig_pm h.nd).cl _ (h.ot x hx), fun x hx y hy e => by
    have := (sig_pm h.nd).inj _ (h.ot x hx) _ (h.ot y hy) e
    rw [← oth_oth x, this, oth_oth]⟩
theorem Rung.trG (h : Rung Vs) (x : D) : ∀ (k : Nat) (y : D), y ∈ ringsOf Vs → trG (sigM Vs) x k y = orbT (phF Vs) x k y
  | 0, _, _ => rfl
  | k + 1, y, hy => by
    have hz := h.phi.cl y hy
    rw [Go.Proofs.Ytahbfdhjgnlmdaa.trG, orbT, sigM_eq h.nd, if_pos (h.ot y hy)]
    show y :: (if phF Vs y = x then [] else Go.Proofs.Ytahbfdhjgnlmdaa.trG (sigM Vs) x k (phF Vs y)) = _
    rw [Rung.trG h x k _ hz]
theorem Rung.face (h : Rung Vs) (N : Nat) {x : D} (hx : x ∈ ringsOf Vs) : faceL (sigM Vs) N x = orbT (phF Vs) x N x := by
  rw [faceL, sigM_eq h.nd, if_pos hx, ← h.trG x N x hx]
  rfl
theorem Rung.faces (h : Rung Vs) (N : Nat) : ∀ (l T : List D), (∀ x ∈ l, x ∈ ringsOf Vs) → facesF (sigM Vs) N l T = orbsF (phF Vs) N l T
  | [], _, _ => rfl
  | x :: r, T, hl => by
    have hx := hl x (List.mem_cons_self ..)
    have hr := fun y hy => hl y (List.mem_cons_of_mem _ hy)
    rw [facesF, orbsF, Rung.faces h N r _ hr, Rung.faces h N r _ hr, h.face N hx]
    by_cases q : x ∈ T
    · rw [if_pos q, if_pos q]
    · rw [if_neg q, if_neg q]
theorem Rung.all (h : Rung Vs) {N : Nat} (hN : (ringsOf Vs).length ≤ N) : ∃ P, Reps (phF Vs) (ringsOf Vs) P ∧ (facesF (sigM Vs) N (sortD (dsV Vs)) []).length = P.length := by
  have hl : ∀ x, x ∈ sortD (dsV Vs) ↔ x ∈ ringsOf Vs := fun x => (List.mergeSort_perm _ _).mem_iff
  obtain ⟨P, hP, e⟩ := orbs_reps h.phi hN (sortD (dsV Vs)) hl
  exact ⟨P, hP, by rw [h.faces N _ _ (fun x hx => (hl x).1 hx), e, List.length_map]⟩
end
end Go.Proofs.Ytahbfdhjgnlmdaa

/- The other way round, in numbers: faces, lone vertices, parts, genus are as they were. -/
namespace Go.Proofs.Ytahbfdhjgnlmdaa
open Go.RowKit
set_option linter.unusedSimpArgs false
set_option linter.unusedVariables false

theorem alone_vS (Ws : List VC) : aloneN Ws = ((Ws.map vS).filter fun s => decide (s.2.1 = [])).length := by
  rw [List.filter_map, List.length_map]
  rfl
end Go.Proofs.Ytahbfdhjgnlmdaa

/- An edge taken out, in numbers. -/
namespace Go.Proofs.Ytahbfdhjgnlmdaa
open Go.RowKit
set_option linter.unusedSimpArgs false
set_option linter.unusedVariables false

section
variable {Vs Us : List VC} {Es : List EC}
end
end Go.Proofs.Ytahbfdhjgnlmdaa

/- An edge more, in numbers: parts, lone vertices, the genus. -/
namespace Go.Proofs.Ytahbfdhjgnlmdaa
open Go.RowKit
set_option linter.unusedSimpArgs false
set_option linter.unusedVariables false

theorem ats_vS {Us Ms : List VC} (h : Us.map vS = Ms.map vS) (i : Nat) (y : I2) : Ats Us i y → Ats Ms i y := by
  rintro ⟨u, hu, x, hx, e⟩
  have hi := congrArg (fun L : List ((Int × Int) × List D × ByteArray × Int) => L[i]?) h
  simp only [List.getElem?_map] at hi
  rw [hu] at hi
  cases hv : Ms[i]? with
  | none => rw [hv] at hi; cases hi
  | some v =>
    rw [hv] at hi
    have e1 : vS u = vS v := Option.some.inj hi
    have e2 : u.2.1.2.2.2 = v.2.1.2.2.2 := congrArg (fun s : (Int × Int) × List D × ByteArray × Int => s.2.1) e1
    exact ⟨v, hv, x, e2 ▸ hx, e⟩
section
variable {Vs Us : List VC} {Es : List EC}
end
end Go.Proofs.Ytahbfdhjgnlmdaa

/- An edge taken out: the rest is formed; its genus is no greater, and at most one less. -/
namespace Go.Proofs.Ytahbfdhjgnlmdaa
open Go.RowKit
set_option linter.unusedSimpArgs false
set_option linter.unusedVariables false

section
variable {Vs Us : List VC} {Es : List EC}
theorem gen_same (h : Us.map vS = Vs.map vS) : genF Us Es = genF Vs Es := by
  have hl : Us.length = Vs.length := by simpa using congrArg List.length h
  have h1 : facN Us Es = facN Vs Es := by unfold facN; rw [phF_same h]
  have h2 : aloneN Us = aloneN Vs := by rw [alone_vS, h, ← alone_vS]
  have h3 : labF Us = labF Vs := labF_same hl (fun i y => ⟨ats_vS h i y, ats_vS h.symm i y⟩)
  unfold genF
  rw [h1, h2, h3, hl]
end
end Go.Proofs.Ytahbfdhjgnlmdaa

/- pack.Take. -/
namespace Go.Proofs.Ytahbfdhjgnlmdaa
open Go.RowKit
set_option linter.unusedSimpArgs false
set_option linter.unusedVariables false

theorem bequal_any (A A' : Option Addr) (n c n' c' : Nat) (P Q : List Nat) (w : World) (h : RdS w w.heap.size 1 A n c (rowsV f8 P)) (h' : RdS w w.heap.size 1 A' n' c' (rowsV f8 Q)) :
    Calls Try.prog 44 #[.slice A n c, .slice A' n' c'] w fun e w' => e = .returned (.bool ((txt P).toList == (txt Q).toList)) ∧ w = w' := by
  have hc1 := conv_txt h
  have hc2 := conv_txt h'
  clear h h'
  go_enter Try.func44, Try.ntmps44
  go_wp2
  go_ret
  exact ⟨rfl, rfl⟩
theorem may7_same {Us Vs : List VC} {Es : List EC} (h : Us.map vS = Vs.map vS) : mayF7 Us Es = mayF7 Vs Es := by
  unfold mayF7
  rw [formD_same h, gen_same h]
/-- Bytes that are a diagram's. -/
def okT (L : List Nat) : Prop := ∃ Ws : List VC, Ws.map vS = rdAV L ∧ mayF7 Ws (rdAE L) = 0 ∧ putD (rdAV L) (rdAE L) = L
theorem okT_iff {L : List Nat} {Ws : List VC} (h : Ws.map vS = rdAV L) : okT L ↔ mayF7 Ws (rdAE L) = 0 ∧ putD (rdAV L) (rdAE L) = L := by
  constructor
  · rintro ⟨Us, h1, h2, h3⟩
    exact ⟨by rw [may7_same (h.trans h1.symm)]; exact h2, h3⟩
  · exact fun q => ⟨Ws, h, q.1, q.2⟩
theorem byte_get {L : List Nat} (h : ∀ b ∈ L, b < 256) (j : Nat) : L.getD j 0 < 256 := by
  rw [List.getD_eq_getElem?_getD]
  cases hq : L[j]? with
  | none => show 0 < 256; omega
  | some b => exact h b (List.mem_of_getElem? hq)
theorem rdId_in {L : List Nat} (h : ∀ b ∈ L, b < 256) : In64 (rdId L).1 ∧ In64 (rdId L).2 := by
  unfold rdId tk4
  have h0 := byte_get (nx_lt h 4) 0
  have h1 := byte_get (nx_lt h 4) 1
  have h2 := byte_get (nx_lt h 4) 2
  have h3 := byte_get (nx_lt h 4) 3
  split
  · unfold nm4 In64
    simp only
    omega
  · exact ⟨by unfold In64; omega, by unfold In64; omega⟩
theorem txt_size (L : List Nat) : (txt L).size = L.length := by
  have h : (txt L).toList.length = L.length := by rw [txt_list, List.length_map]
  rw [ByteArray.toList_eq] at h
  simpa using h
theorem rdTx_size {L : List Nat} (h : ∀ b ∈ L, b < 256) : (rdTx L).size ≤ 1000 := by
  unfold rdTx
  rw [txt_size, nx_len]
  have := byte_lt (L := L.drop 4) (fun b q => h b (List.mem_of_mem_drop q))
  omega
theorem rdH_lt {L : List Nat} (h : ∀ b ∈ L, b < 256) : ∀ b ∈ rdH L, b < 256 := fun b hb => h b (by
  unfold rdH rdL2 at hb
  exact List.mem_of_mem_drop (List.mem_of_mem_drop (List.mem_of_mem_drop (List.mem_of_mem_drop hb))))
theorem rdEs_in : ∀ (k : Nat) {L : List Nat}, (∀ b ∈ L, b < 256) → ∀ e ∈ rdEs k L, In64 e.1.1 ∧ In64 e.1.2 ∧ e.2.1.size ≤ 1000
  | 0, _, _, e, he => by cases he
  | k + 1, L, h, e, he => by
    rcases List.mem_cons.1 he with rfl | he
    · exact ⟨(rdId_in h).1, (rdId_in h).2, rdTx_size h⟩
    · exact rdEs_in k (rdH_lt h) e he
theorem rdEr_lt : ∀ (k : Nat) {L : List Nat}, (∀ b ∈ L, b < 256) → ∀ b ∈ rdEr k L, b < 256
  | 0, _, h => h
  | k + 1, _, h => rdEr_lt k (rdH_lt h)
theorem rdD_in {Es : List EC} (he : ∀ e ∈ Es, In64 e.1.1 ∧ In64 e.1.2) {c : Nat} (hc : c < 256) : In64 (rdD Es c).1 ∧ In64 (rdD Es c).2.1 ∧ In64 (rdD Es c).2.2 := by
  unfold rdD
  cases hq : Es[c % 128]? with
  | none =>
    show In64 0 ∧ In64 0 ∧ In64 0
    unfold In64
    omega
  | some e =>
    obtain ⟨h1, h2⟩ := he e (List.mem_of_getElem? hq)
    exact ⟨h1, h2, by unfold In64; simp only; omega⟩
theorem rdVs_in {Es : List EC} (he : ∀ e ∈ Es, In64 e.1.1 ∧ In64 e.1.2) : ∀ (k : Nat) {L : List Nat}, (∀ b ∈ L, b < 256) → ∀ v ∈ rdVs Es k L, v.2.1.length ≤ 255 ∧ v.2.2.1.size ≤ 1000 ∧ ∀ d ∈ v.2.1, In64 d.1 ∧ In64 d.2.1 ∧ In64 d.2.2
  | 0, _, _, v, hv => by cases hv
  | k + 1, L, h, v, hv => by
    rcases List.mem_cons.1 hv with rfl | hv
    · refine ⟨?_, rdTx_size h, fun d hd => ?_⟩
      · show ((nx (c1 (rdH L)) ((rdH L).drop 1)).map (rdD Es)).length ≤ 255
        rw [List.length_map, nx_len]
        have := byte_lt (rdH_lt h)
        omega
      · obtain ⟨c, hc, rfl⟩ := List.mem_map.1 hd
        exact rdD_in he (nx_lt (fun b q => rdH_lt h b (List.mem_of_mem_drop q)) _ c hc)
    · exact rdVs_in he k (fun b q => rdH_lt h b (by unfold rdW at q; exact List.mem_of_mem_drop (List.mem_of_mem_drop q))) v hv
theorem read_good {L : List Nat} (h : ∀ b ∈ L, b < 256) {Ws : List VC} (hW : Ws.map vS = rdAV L) : GoodD Ws (rdAE L) ∧ ∀ x ∈ Ws, x.2.1.2.2.2.length ≤ 255 := by
  have h1 : ∀ b ∈ L.drop 1, b < 256 := fun b q => h b (List.mem_of_mem_drop q)
  have hE := rdEs_in (c1 L) h1
  have hV := rdVs_in (Es := rdAE L) (fun e q => ⟨(hE e q).1, (hE e q).2.1⟩) (c1 (rdEr (c1 L) (L.drop 1))) (L := (rdEr (c1 L) (L.drop 1)).drop 1) (fun b q => rdEr_lt _ h1 b (List.mem_of_mem_drop q))
  have key : ∀ x ∈ Ws, x.2.1.2.2.2.length ≤ 255 ∧ x.2.2.1.size ≤ 1000 ∧ ∀ d ∈ x.2.1.2.2.2, In64 d.1 ∧ In64 d.2.1 ∧ In64 d.2.2 := fun x hx => by
    have h9 : vS x ∈ rdAV L := hW ▸ List.mem_map.2 ⟨x, hx, rfl⟩
    exact hV (vS x) h9
  have z0 : In64 0 ∧ In64 1 := ⟨by unfold In64; omega, by unfold In64; omega⟩
  refine ⟨⟨fun x hx d hd => ?_, fun e he => ?_, fun x hx => ?_, fun e he => ?_⟩, fun x hx => (key x hx).1⟩
  · have := (key x hx).2.2 d hd
    exact ⟨wf64 this.1, wf64 this.2.1, wf64 this.2.2⟩
  · have := hE e he
    exact ⟨⟨wf64 this.1, wf64 this.2.1, wf64 z0.1⟩, ⟨wf64 this.1, wf64 this.2.1, wf64 z0.2⟩⟩
  · have := (key x hx).2.1
    unfold maxLen
    omega
  · have := (hE e he).2.2
    unfold maxLen
    omega
/-- What Take tells. -/
def GivesT (w : World) (L : List Nat) (e : Ending) (w' : World) : Prop :=
  Below w.heap.size w w' ∧ ((okT L ∧ ∃ A' n' c' B' m' k' Ws, e = .returned (.tuple #[.agg #[.slice A' n' c', .slice B' m' k'], .int .i64 0]) ∧ ClS w' w.heap.size A' n' c' Ws B' m' k' (rdAE L) ∧ Ws.map vS = rdAV L) ∨ (¬ okT L ∧ e = .returned (.tuple #[.agg #[.slice none 0 0, .slice none 0 0], .int .i64 2])))
set_option maxRecDepth 100000 in
set_option maxHeartbeats 4000000 in
theorem take_any (A : Option Addr) (n c : Nat) (L : List Nat) (w : World) (h : RdS w w.heap.size 1 A n c (rowsV f8 L)) (hb : ∀ b ∈ L, b < 256) (hn : n ≤ 100000) :
    Calls Try.prog 26 #[.slice A n c] w (GivesT w L) := by
  have HR := Lib.hid h
  have Hb := Lib.hid hb
  have HD := Lib.hid (fun W h => read_any A n c L W h hb hn)
  have HX0 : RowKit.Hid (Whole (w.alloc (.cells #[.slice none 0 0, .slice none 0 0] 25)) w.heap.size 25 [.slice none 0 0, .slice none 0 0]) := Lib.hid (Whole.new_ _ _ [_, _])
  have HE0 : RowKit.Hid (Ext w (w.alloc (.cells #[.slice none 0 0, .slice none 0 0] 25))) := Lib.hid (below1 w _)
  clear h hb
  go_enter Try.func26, Try.ntmps26
  go_upto_region 1 with fail
  have HR0 := Lib.hid (HR.out.bl HE0.out)
  obtain ⟨w0, gw0⟩ : ∃ z, w.alloc (.cells #[.slice none 0 0, .slice none 0 0] 25) = z := ⟨_, rfl⟩
  obtain ⟨b, gb⟩ : ∃ z, w.heap.size = z := ⟨_, rfl⟩
  rw [gw0] at HX0 HE0 HR0 ⊢
  rw [gb] at HX0 ⊢
  have Gb := Lib.hid gb
  clear gw0 gb HR
  go_upto_region 2 with (first
    | (go_at_call 43
       refine (HD.out _ HR0.out).mono ?_
       rintro e w1 ⟨A1, n1, c1_, B1, m1, k1, Ws, rfl, hc, hWs, hb1⟩
       have hl1 : Ext w1 (w1.alloc (.cells #[.slice A1 n1 c1_, .slice B1 m1 k1] 25)) := below1 w1 _
       have HC1 := Lib.hid ((hc.lo_ HE0.out.size).al (.cells #[.slice A1 n1 c1_, .slice B1 m1 k1] 25))
       have HX1 := Lib.hid ((HX0.out.bl hb1).al (.cells #[.slice A1 n1 c1_, .slice B1 m1 k1] 25))
       have HR1 := Lib.hid ((HR0.out.bl hb1).al (.cells #[.slice A1 n1 c1_, .slice B1 m1 k1] 25))
       have HE1 : RowKit.Hid (Ext w (w1.alloc (.cells #[.slice A1 n1 c1_, .slice B1 m1 k1] 25))) := Lib.hid (Ext.trans (Ext.trans HE0.out hb1) hl1)
       have HY1 : RowKit.Hid (Whole (w1.alloc (.cells #[.slice A1 n1 c1_, .slice B1 m1 k1] 25)) w1.heap.size 25 [.slice A1 n1 c1_, .slice B1 m1 k1]) := Lib.hid (Whole.new_ _ _ [_, _])
       have HWs := Lib.hid hWs
       clear hc hb1 hWs hl1))
  clear HX0 HE0 HR0 HD
  obtain ⟨w2, gw2⟩ : ∃ z, w1.alloc (.cells #[.slice A1 n1 c1_, .slice B1 m1 k1] 25) = z := ⟨_, rfl⟩
  obtain ⟨b4, gb4⟩ : ∃ z, w1.heap.size = z := ⟨_, rfl⟩
  rw [gw2] at HC1 HX1 HR1 HE1 HY1 ⊢
  rw [gb4] at HY1 ⊢
  clear gw2 gb4
  obtain ⟨hgd, hrl⟩ := read_good Hb.out HWs.out
  have hr0 : ∀ x ∈ Ws, x.2.1.2.1 ≤ 1000000 := fun x hx => by
    have h1 := hrl x hx
    have h2 := (HC1.out.wr.dg.r x hx).2.dlen
    omega
  have hok := okT_iff HWs.out
  have d0 := HY1.out.cell (i := 0) rfl
  have d1 := HY1.out.cell (i := 1) rfl
  by_cases hmy : mayF7 Ws (rdAE L) = 0
  · have HPy := Lib.hid (fun W h => put_yes A1 n1 c1_ Ws B1 m1 k1 (rdAE L) W h hgd hr0 hmy)
    rw [HWs.out] at HPy
    have hplt := putD_lt (rdAV L) (rdAE L)
    have htx := txt_eq hplt Hb.out
    have Hok : RowKit.Hid (okT L ↔ putD (rdAV L) (rdAE L) = L) := Lib.hid ⟨fun q => (hok.1 q).2, fun q => hok.2 ⟨hmy, q⟩⟩
    obtain ⟨P, gP⟩ : ∃ z, putD (rdAV L) (rdAE L) = z := ⟨_, rfl⟩
    rw [gP] at HPy htx Hok
    obtain ⟨tb, gtb⟩ : ∃ z, decide (P = L) = z := ⟨_, rfl⟩
    have HQ : RowKit.Hid (∀ (A5 : Option Addr) (c5 : Nat) W, RdS W W.heap.size 1 A5 P.length c5 (rowsV f8 P) → RdS W W.heap.size 1 A n c (rowsV f8 L) → Calls Try.prog 44 #[.slice A5 P.length c5, .slice A n c] W fun e w' => e = .returned (.bool tb) ∧ W = w') := Lib.hid (fun A5 c5 W h1 h2 => by
      have h9 := bequal_any A5 A P.length c5 n c P L W h1 h2
      rw [htx, gtb] at h9
      exact h9)
    have Htb := Lib.hid gtb
    clear hgd hrl hr0 hok hplt htx gP gtb hmy
    go_wp2_with (first
      | (go_at_call 25
         refine (HPy.out _ HC1.out.wr.dg).mono ?_
         rintro e w3 ⟨A5, c5, rfl, ho5, hb3⟩
         have HX3 := Lib.hid (HX1.out.bl hb3)
         have HY3 := Lib.hid (HY1.out.bl hb3)
         have HC3 := Lib.hid (HC1.out.bl hb3)
         have HR3 := Lib.hid (HR1.out.bl hb3)
         have HE3 : RowKit.Hid (Ext w w3) := Lib.hid (Ext.trans HE1.out hb3)
         have HO3 := Lib.hid (own_rds ho5)
         clear hb3 d0 d1 ho5)
      | (go_at_call 44
         refine (HQ.out _ _ _ HO3.out HR3.out).mono ?_
         rintro e w4 ⟨rfl, rfl⟩
         have q0 := HX3.out.cell (i := 0) rfl
         have q1 := HX3.out.cell (i := 1) rfl
         have f0 := HX3.out.free 0
         have f1 := HX3.out.free 1
         have d0 := HY3.out.cell (i := 0) rfl
         have d1 := HY3.out.cell (i := 1) rfl
         cases tb))
    · have HXz := (HX3.out.set_ 0 (.slice none 0 0)).set_ 1 (.slice none 0 0)
      have HBz := ((show Below w.heap.size w w3 from HE3.out).setCell (p := ⟨b, 0, none⟩) (by show w.heap.size ≤ b; exact Nat.le_of_eq Gb.out) (.slice none 0 0)).setCell (p := ⟨b, 1, none⟩) (by show w.heap.size ≤ b; exact Nat.le_of_eq Gb.out) (.slice none 0 0)
      exact ret_whole2 rfl b rfl rfl HXz Try.underlying25 rfl (by kernel_rfl) rfl ⟨HBz, .inr ⟨fun q => of_decide_eq_false Htb.out (Hok.out.1 q), rfl⟩⟩
    · have HXz := (HX3.out.set_ 0 (.slice A1 n1 c1_)).set_ 1 (.slice B1 m1 k1)
      have HBz := ((show Below w.heap.size w w3 from HE3.out).setCell (p := ⟨b, 0, none⟩) (by show w.heap.size ≤ b; exact Nat.le_of_eq Gb.out) (.slice A1 n1 c1_)).setCell (p := ⟨b, 1, none⟩) (by show w.heap.size ≤ b; exact Nat.le_of_eq Gb.out) (.slice B1 m1 k1)
      have HCz := (HC3.out.far (i := 0) HX3.out (by decide) (by decide) (by decide) (.slice A1 n1 c1_)).far (i := 1) (HX3.out.set_ 0 (.slice A1 n1 c1_)) (by decide) (by decide) (by decide) (.slice B1 m1 k1)
      exact ret_whole2 rfl b rfl rfl HXz Try.underlying25 rfl (by kernel_rfl) rfl ⟨HBz, .inl ⟨Hok.out.2 (of_decide_eq_true Htb.out), A1, n1, c1_, B1, m1, k1, Ws, rfl, HCz, HWs.out⟩⟩
  · have HPn := Lib.hid (fun W h => put_not A1 n1 c1_ Ws B1 m1 k1 (rdAE L) W h hgd hr0 hmy)
    have Hno : RowKit.Hid (¬ okT L) := Lib.hid (fun q => hmy (hok.1 q).1)
    obtain ⟨my, gmy⟩ : ∃ z, mayF7 Ws (rdAE L) = z := ⟨_, rfl⟩
    rw [gmy] at HPn hmy
    have hne : (my != 0) = true := by simp [hmy]
    clear gmy hgd hrl hr0 hok
    go_wp2_with (first
      | (go_at_call 25
         refine (HPn.out _ HC1.out.wr.dg).mono ?_
         rintro e w3 ⟨rfl, hb3⟩
         have HX3 := Lib.hid (HX1.out.bl hb3)
         have HE3 : RowKit.Hid (Ext w w3) := Lib.hid (Ext.trans HE1.out hb3)
         have q0 := HX3.out.cell (i := 0) rfl
         have q1 := HX3.out.cell (i := 1) rfl
         have f0 := HX3.out.free 0
         have f1 := HX3.out.free 1
         clear hb3 d0 d1))
    have HXz := (HX3.out.set_ 0 (.slice none 0 0)).set_ 1 (.slice none 0 0)
    have HBz := ((show Below w.heap.size w w3 from HE3.out).setCell (p := ⟨b, 0, none⟩) (by show w.heap.size ≤ b; exact Nat.le_of_eq Gb.out) (.slice none 0 0)).setCell (p := ⟨b, 1, none⟩) (by show w.heap.size ≤ b; exact Nat.le_of_eq Gb.out) (.slice none 0 0)
    exact ret_whole2 rfl b rfl rfl HXz Try.underlying25 rfl (by kernel_rfl) rfl ⟨HBz, .inr ⟨Hno.out, rfl⟩⟩

end Go.Proofs.Ytahbfdhjgnlmdaa

/- The document's example of layer 8. -/
namespace Go.Proofs.Ytahbfdhjgnlmdaa
open Go.RowKit
set_option linter.unusedSimpArgs false
set_option linter.unusedVariables false

theorem may7_nil : mayF7 [] [] = 0 := by
  unfold mayF7
  rw [if_pos ((form0 [] []).2 tw0_formed), tw0_gen]
  rfl
theorem put_nil : putD (([] : List VC).map vS) [] = [0, 0] := rfl
set_option maxRecDepth 100000 in
set_option maxHeartbeats 1000000 in
theorem shown08_any (w : World) : Calls Try.prog 15 #[] w fun e w' => e = .returned (.bool true) ∧ Below w.heap.size w w' := by
  have HP := Lib.hid (fun W => put_yes none 0 0 [] none 0 0 [] W ⟨RdS.no _ _ _, RdS.no _ _ _, fun x hx => (by cases hx)⟩ tw0_good (fun x hx => (by cases hx)) may7_nil)
  rw [put_nil] at HP
  have HN := Lib.hid (fun W => num_any none 0 [] 1 W (rds_nil W W.heap.size 1) (by simp))
  have hl : ([] ++ be8 1).length = 8 := by rw [List.nil_append, be8_len]
  obtain ⟨L, gL⟩ : ∃ z, [] ++ be8 1 = z := ⟨_, rfl⟩
  rw [gL] at HN hl
  have Hl := Lib.hid hl
  obtain ⟨Q, gQ⟩ : ∃ z, ([0, 0] : List Nat) = z := ⟨_, rfl⟩
  have hq : Q.length = 2 := by rw [← gQ]; rfl
  rw [gQ, hq] at HP
  have htx : txt Q = { data := #[0, 0] } := by rw [← gQ]; rfl
  have Htx := Lib.hid htx
  clear gL hl gQ hq htx
  go_enter Try.func15, Try.ntmps15
  go_upto_region 2 with (first
    | (go_at_call 25
       refine (HP.out _).mono ?_
       rintro e w2 ⟨A2, c2, rfl, ho2, hb2⟩
       have HR2 := Lib.hid (own_rds ho2)
       have HB2 := Lib.hid hb2
       clear ho2 hb2))
  have hcv := conv_txt HR2.out
  rw [Htx.out] at hcv
  go_wp2_with (first
    | (go_at_call 20
       refine (HN.out _).mono ?_
       rintro e w3 ⟨A3, c3, rfl, hr3, -, -, hb3⟩
       have HB3 : RowKit.Hid (Below w.heap.size w w3) := Lib.hid (Ext.trans HB2.out hb3)
       rw [Hl.out] at hr3 ⊢
       clear hr3 hb3 hcv))
  go_ret
  exact ⟨by first | rfl | simp, HB3.out⟩

end Go.Proofs.Ytahbfdhjgnlmdaa

/- PackBack's walk. -/
namespace Go.Proofs.Ytahbfdhjgnlmdaa
open Go.RowKit
set_option linter.unusedSimpArgs false
set_option linter.unusedVariables false

/-- What Put lays down, and nothing where it says that the diagram may not be. -/
def pb (Vs : List VC) (Es : List EC) : List Nat := if mayF7 Vs Es = 0 then putD (Vs.map vS) Es else []
structure PbOk (P : List Nat) (Vs : List VC) (Es : List EC) : Prop where
  ok : okT P
  more : ∀ b, ¬ okT (P ++ [b])
  less : ∀ t, t < P.length → ¬ okT (P.take t)
  e : rdAE P = Es
  v : rdAV P = Vs.map vS
  max : P.length ≤ 4000
  lt : ∀ b ∈ P, b < 256
  eq : P = putD (Vs.map vS) Es
theorem pbOk {Vs : List VC} {Es : List EC} (hf : mayF7 Vs Es = 0) : PbOk (pb Vs Es) Vs Es := by
  unfold pb
  rw [if_pos hf]
  have g := (may7_formed hf).read []
  rw [List.append_nil] at g
  have hle := putD_max (may7_formed hf)
  have hlt := putD_lt (Vs.map vS) Es
  have hP : putD (rdAV (putD (Vs.map vS) Es)) (rdAE (putD (Vs.map vS) Es)) = putD (Vs.map vS) Es := by rw [g.1, g.2]
  refine ⟨(okT_iff g.2.symm).2 ⟨by rw [g.1]; exact hf, hP⟩, fun b => ?_, fun t ht => ?_, g.1, g.2, hle, hlt, rfl⟩
  · rintro ⟨Us, h1, h2, h3⟩
    have h := (may7_formed hf).read [b]
    rw [h.1, h.2] at h3
    have h4 := congrArg List.length h3
    rw [List.length_append, List.length_singleton] at h4
    omega
  · rintro ⟨Us, h1, h2, h3⟩
    have hq : (putD (Vs.map vS) Es).take t ++ (putD (Vs.map vS) Es).drop t = putD (Vs.map vS) Es := List.take_append_drop t _
    have hl : ((putD (Vs.map vS) Es).take t).length < (putD (Vs.map vS) Es).length := by rw [List.length_take]; omega
    obtain ⟨Q, gQ⟩ : ∃ z, (putD (Vs.map vS) Es).take t = z := ⟨_, rfl⟩
    rw [gQ] at h1 h2 h3 hq hl
    have h := (may7_formed h2).read ((putD (Vs.map vS) Es).drop t)
    rw [h1, h3, hq] at h
    rw [← h.1, ← h.2, hP] at h3
    rw [h3] at hl
    omega
theorem pb_inj {Vs Ws : List VC} {Es Fs : List EC} {P Q : List Nat} (h : PbOk P Vs Es) (g : PbOk Q Ws Fs) : decide (P = Q) = decide (Vs.map vS = Ws.map vS ∧ Es = Fs) :=
  decide_eq_decide.2 ⟨fun q => by
    have h1 := h.e
    have h2 := h.v
    rw [q] at h1 h2
    exact ⟨h2.symm.trans g.v, h1.symm.trans g.e⟩, fun ⟨q1, q2⟩ => by rw [h.eq, g.eq, q1, q2]⟩
theorem put8_any (A : Option Addr) (n c : Nat) (Vs : List VC) (B : Option Addr) (m k : Nat) (Es : List EC) (w : World) (h : DgIn w A n c Vs B m k Es) (hg : GoodD Vs Es) (hr : ∀ x ∈ Vs, x.2.1.2.1 ≤ 1000000) :
    Calls Try.prog 25 #[.agg #[.slice A n c, .slice B m k]] w fun e w' => ∃ A' c', e = .returned (.tuple #[.slice A' (pb Vs Es).length c', .int .i64 (mayF7 Vs Es)]) ∧ w'.ownsRow w.heap.size 5 1 (.slice A' (pb Vs Es).length c') (pb Vs Es).length (rowsV f8 (pb Vs Es)) ∧ Below w.heap.size w w' := by
  by_cases hm : mayF7 Vs Es = 0
  · have h9 := put_yes A n c Vs B m k Es w h hg hr hm
    unfold pb
    rw [if_pos hm, hm]
    exact h9
  · refine (put_not A n c Vs B m k Es w h hg hr hm).mono ?_
    rintro e w' ⟨rfl, hb⟩
    unfold pb
    rw [if_neg hm]
    exact ⟨none, 0, rfl, World.ownsRow_nil w' w.heap.size 5 1, hb⟩
theorem take_yes (A : Option Addr) (n c : Nat) (L : List Nat) (w : World) (h : RdS w w.heap.size 1 A n c (rowsV f8 L)) (hb : ∀ b ∈ L, b < 256) (hn : n ≤ 100000) (hok : okT L) :
    Calls Try.prog 26 #[.slice A n c] w fun e w' => ∃ A' n' c' B' m' k' Ws, e = .returned (.tuple #[.agg #[.slice A' n' c', .slice B' m' k'], .int .i64 0]) ∧ ClS w' w.heap.size A' n' c' Ws B' m' k' (rdAE L) ∧ Ws.map vS = rdAV L ∧ Below w.heap.size w w' := by
  refine (take_any A n c L w h hb hn).mono ?_
  rintro e w' ⟨hb, ⟨-, A', n', c', B', m', k', Ws, he, hc, hw⟩ | ⟨hno, -⟩⟩
  · exact ⟨A', n', c', B', m', k', Ws, he, hc, hw, hb⟩
  · exact absurd hok hno
theorem take_no (A : Option Addr) (n c : Nat) (L : List Nat) (w : World) (h : RdS w w.heap.size 1 A n c (rowsV f8 L)) (hb : ∀ b ∈ L, b < 256) (hn : n ≤ 100000) (hok : ¬ okT L) :
    Calls Try.prog 26 #[.slice A n c] w fun e w' => e = .returned (.tuple #[.agg #[.slice none 0 0, .slice none 0 0], .int .i64 2]) ∧ Below w.heap.size w w' := by
  refine (take_any A n c L w h hb hn).mono ?_
  rintro e w' ⟨hb, ⟨hy, -⟩ | ⟨-, he⟩⟩
  · exact absurd hy hok
  · exact ⟨he, hb⟩
structure Bk (w W : World) (g0 g1 : Nat) (Aa : Option Addr) (na ca : Nat) (Va : List VC) (Ba : Option Addr) (ma ka : Nat) (Ea : List EC) (Ab : Option Addr) (nb cb : Nat) (Vb : List VC) (Bb : Option Addr) (mb kb : Nat) (Eb : List EC) : Prop where
  b : Below w.heap.size w W
  x0 : Whole W g0 25 [.slice Aa na ca, .slice Ba ma ka]
  x1 : Whole W g1 25 [.slice Ab nb cb, .slice Bb mb kb]
  da : DgIn W Aa na ca Va Ba ma ka Ea
  db : DgIn W Ab nb cb Vb Bb mb kb Eb
theorem Bk.bl {w W W' : World} {g0 g1 : Nat} {Aa : Option Addr} {na ca : Nat} {Va : List VC} {Ba : Option Addr} {ma ka : Nat} {Ea : List EC} {Ab : Option Addr} {nb cb : Nat} {Vb : List VC} {Bb : Option Addr} {mb kb : Nat} {Eb : List EC} (h : Bk w W g0 g1 Aa na ca Va Ba ma ka Ea Ab nb cb Vb Bb mb kb Eb) (hb : Ext W W') : Bk w W' g0 g1 Aa na ca Va Ba ma ka Ea Ab nb cb Vb Bb mb kb Eb :=
  ⟨bel_bl h.b hb, h.x0.bl hb, h.x1.bl hb, h.da.below hb, h.db.below hb⟩
set_option maxRecDepth 100000 in
set_option maxHeartbeats 4000000 in
theorem law_back (A : Option Addr) (n c : Nat) (Vs : List VC) (B : Option Addr) (m k : Nat) (Es : List EC) (A' : Option Addr) (n' c' : Nat) (Ws : List VC) (B' : Option Addr) (m' k' : Nat) (Fs : List EC) (x : Int) (w : World)
    (h : DgIn w A n c Vs B m k Es) (hg : GoodD Vs Es) (hn : n ≤ maxLen) (hm : m ≤ maxLen) (h' : DgIn w A' n' c' Ws B' m' k' Fs) (hg' : GoodD Ws Fs) (hn' : n' ≤ maxLen) (hm' : m' ≤ maxLen) :
    Calls Try.prog 5 #[.agg #[.slice A n c, .slice B m k], .agg #[.slice A' n' c', .slice B' m' k'], .int .i64 x] w fun e w' => e = .returned (.bool true) ∧ Below w.heap.size w w' := by
  have HW := Lib.hid (fun W hb => few8_step h hg hn hm W hb)
  have HW' := Lib.hid (fun W hb => few8_step h' hg' hn' hm' W hb)
  obtain ⟨Va, gVa⟩ : ∃ z, (Vs.take 26).map few7V = z := ⟨_, rfl⟩
  obtain ⟨Ea, gEa⟩ : ∃ z, Es.take 42 = z := ⟨_, rfl⟩
  obtain ⟨Vb, gVb⟩ : ∃ z, (Ws.take 26).map few7V = z := ⟨_, rfl⟩
  obtain ⟨Eb, gEb⟩ : ∃ z, Fs.take 42 = z := ⟨_, rfl⟩
  rw [gVa, gEa] at HW
  rw [gVb, gEb] at HW'
  clear h hg hn hm h' hg' hn' hm' gVa gEa gVb gEb
  go_enter Try.func5, Try.ntmps5
  go_wp2_with fail
  refine (shown08_any _).mono ?_
  rintro e w1 ⟨rfl, hb1⟩
  have D0_2 := Lib.hid (((show Whole (w.alloc (.cells #[.slice A n c, .slice B m k] 25)) (w.heap.size) (25) ([.slice A n c, .slice B m k]) from Whole.new2 (by first | rfl | simp)).al (.cells #[.slice A' n' c', .slice B' m' k'] 25)).bl hb1)
  have D1_2 := Lib.hid ((show Whole ((w.alloc (.cells #[.slice A n c, .slice B m k] 25)).alloc (.cells #[.slice A' n' c', .slice B' m' k'] 25)) ((w.heap.size + 1)) (25) ([.slice A' n' c', .slice B' m' k']) from Whole.new2 (by first | rfl | simp)).bl hb1)
  have Bel_2 := Lib.hid (bel_bl (bel_al (bel_al (Below.refl _ w) (.cells #[.slice A n c, .slice B m k] 25)) (.cells #[.slice A' n' c', .slice B' m' k'] 25)) hb1)
  clear hb1
  have LO_D0_3 : RowKit.Hid (w.heap.size ≤ w.heap.size) := Lib.hid (by omega)
  have LO_D1_4 : RowKit.Hid (w.heap.size ≤ (w.heap.size + 1)) := Lib.hid (by omega)
  have NE_D0_D1 : RowKit.Hid (w.heap.size ≠ (w.heap.size + 1)) := Lib.hid (by omega)
  have lw5 : (w1).cell? ⟨w.heap.size, 0, none⟩ = some (.slice A n c) := D0_2.out.cell (i := 0) rfl
  have lw6 : (w1).cell? ⟨w.heap.size, 1, none⟩ = some (.slice B m k) := D0_2.out.cell (i := 1) rfl
  go_wp2_with fail
  clear lw5 lw6
  have LTN_a_D0 : RowKit.Hid (w.heap.size < w1.heap.size) := Lib.hid (D0_2.out).lt
  have LTN_a_D1 : RowKit.Hid ((w.heap.size + 1) < w1.heap.size) := Lib.hid (D1_2.out).lt
  refine (HW.out _ Bel_2.out).mono ?_
  rintro e w7 ⟨Aa, na, ca, Ba, ma, ka, rfl, hF, hb7⟩
  have Fa := Lib.hid hF
  clear hF
  have D0_8 := Lib.hid (D0_2.out.bl hb7)
  have D1_8 := Lib.hid (D1_2.out.bl hb7)
  have Bel_8 := Lib.hid (bel_bl Bel_2.out hb7)
  clear D0_2 D1_2 Bel_2
  clear hb7
  have lw9 : (w7).cell? ⟨w.heap.size, 0, none⟩ = some (.slice A n c) := D0_8.out.cell (i := 0) rfl
  have lw10 : (w7).cell? ⟨w.heap.size, 1, none⟩ = some (.slice B m k) := D0_8.out.cell (i := 1) rfl
  have fr0 := D0_8.out.free 0
  have fr1 := D0_8.out.free 1
  go_upto_region 3 with fail
  clear fr0 fr1 lw9 lw10
  obtain ⟨v11, gv11⟩ : ∃ x, (w7.setCell ⟨w.heap.size, 0, none⟩ (.slice Aa na ca)).setCell ⟨w.heap.size, 1, none⟩ (.slice Ba ma ka) = x := ⟨_, rfl⟩
  have D0_11 : RowKit.Hid (Whole v11 w.heap.size 25 [.slice Aa na ca, .slice Ba ma ka]) := Lib.hid (gv11 ▸ ((D0_8.out.set_ 0 (.slice Aa na ca)).set_ 1 (.slice Ba ma ka)))
  have D1_11 := Lib.hid (show Whole v11 (w.heap.size + 1) _ _ from gv11 ▸ ((D1_8.out.far (p := ⟨w.heap.size, 0, none⟩) (by show (w.heap.size + 1) ≠ w.heap.size; exact (Ne.symm NE_D0_D1.out)) (.slice Aa na ca)).far (p := ⟨w.heap.size, 1, none⟩) (by show (w.heap.size + 1) ≠ w.heap.size; exact (Ne.symm NE_D0_D1.out)) (.slice Ba ma ka)))
  have Bel_11 : RowKit.Hid (Below w.heap.size w v11) := Lib.hid (gv11 ▸ ((Bel_8.out.setCell (p := ⟨w.heap.size, 0, none⟩) (by show w.heap.size ≤ w.heap.size; exact LO_D0_3.out) _).setCell (p := ⟨w.heap.size, 1, none⟩) (by show w.heap.size ≤ w.heap.size; exact LO_D0_3.out) _))
  have Da_11 : RowKit.Hid (DgIn v11 Aa na ca Va Ba ma ka Ea) := Lib.hid (gv11 ▸ Fa.out.put (g := w.heap.size) (by show w.heap.size ≤ w.heap.size; exact LO_D0_3.out) LTN_a_D0.out _ _)
  rw [gv11]
  clear gv11
  clear D0_8 D1_8 Bel_8
  have lw12 : (v11).cell? ⟨(w.heap.size + 1), 0, none⟩ = some (.slice A' n' c') := D1_11.out.cell (i := 0) rfl
  have lw13 : (v11).cell? ⟨(w.heap.size + 1), 1, none⟩ = some (.slice B' m' k') := D1_11.out.cell (i := 1) rfl
  go_wp2_with fail
  clear lw12 lw13
  have LTN_b_D0 : RowKit.Hid (w.heap.size < v11.heap.size) := Lib.hid (D0_11.out).lt
  have LTN_b_D1 : RowKit.Hid ((w.heap.size + 1) < v11.heap.size) := Lib.hid (D1_11.out).lt
  refine (HW'.out _ Bel_11.out).mono ?_
  rintro e w14 ⟨Ab, nb, cb, Bb, mb, kb, rfl, hF, hb14⟩
  have Fb := Lib.hid hF
  clear hF
  have D0_15 := Lib.hid (D0_11.out.bl hb14)
  have D1_15 := Lib.hid (D1_11.out.bl hb14)
  have Da_15 := Lib.hid (Da_11.out.bl hb14)
  have Bel_15 := Lib.hid (bel_bl Bel_11.out hb14)
  clear D0_11 D1_11 Da_11 Bel_11
  clear hb14
  have lw16 : (w14).cell? ⟨(w.heap.size + 1), 0, none⟩ = some (.slice A' n' c') := D1_15.out.cell (i := 0) rfl
  have lw17 : (w14).cell? ⟨(w.heap.size + 1), 1, none⟩ = some (.slice B' m' k') := D1_15.out.cell (i := 1) rfl
  have fr0 := D1_15.out.free 0
  have fr1 := D1_15.out.free 1
  go_upto_region 4 with fail
  clear fr0 fr1 lw16 lw17
  obtain ⟨v18, gv18⟩ : ∃ x, (w14.setCell ⟨(w.heap.size + 1), 0, none⟩ (.slice Ab nb cb)).setCell ⟨(w.heap.size + 1), 1, none⟩ (.slice Bb mb kb) = x := ⟨_, rfl⟩
  have D0_18 := Lib.hid (show Whole v18 w.heap.size _ _ from gv18 ▸ ((D0_15.out.far (p := ⟨(w.heap.size + 1), 0, none⟩) (by show w.heap.size ≠ (w.heap.size + 1); exact NE_D0_D1.out) (.slice Ab nb cb)).far (p := ⟨(w.heap.size + 1), 1, none⟩) (by show w.heap.size ≠ (w.heap.size + 1); exact NE_D0_D1.out) (.slice Bb mb kb)))
  have D1_18 : RowKit.Hid (Whole v18 (w.heap.size + 1) 25 [.slice Ab nb cb, .slice Bb mb kb]) := Lib.hid (gv18 ▸ ((D1_15.out.set_ 0 (.slice Ab nb cb)).set_ 1 (.slice Bb mb kb)))
  have Da_18 : RowKit.Hid (DgIn v18 Aa na ca Va Ba ma ka Ea) := Lib.hid (gv18 ▸ DgIn.put (g := (w.heap.size + 1)) Da_15.out (fun a e h0 => by have h1 := Fa.out.fresh.2.2.1 a e h0; have h2 := LTN_a_D1.out; omega) (fun a e h0 => by have h1 := Fa.out.fresh.2.2.2 a e h0; have h2 := LTN_a_D1.out; omega) (fun x hx a e h0 => by have h1 := Fa.out.low x hx a e h0; have h2 := LO_D1_4.out; omega) _ _)
  have Bel_18 : RowKit.Hid (Below w.heap.size w v18) := Lib.hid (gv18 ▸ ((Bel_15.out.setCell (p := ⟨(w.heap.size + 1), 0, none⟩) (by show w.heap.size ≤ (w.heap.size + 1); exact LO_D1_4.out) _).setCell (p := ⟨(w.heap.size + 1), 1, none⟩) (by show w.heap.size ≤ (w.heap.size + 1); exact LO_D1_4.out) _))
  have Db_18 : RowKit.Hid (DgIn v18 Ab nb cb Vb Bb mb kb Eb) := Lib.hid (gv18 ▸ Fb.out.put (g := (w.heap.size + 1)) (by show w.heap.size ≤ (w.heap.size + 1); exact LO_D1_4.out) LTN_b_D1.out _ _)
  rw [gv18]
  clear gv18
  clear D0_15 D1_15 Da_15 Bel_15
  have Hn30 : RowKit.Hid (na ≤ 1000000 ∧ ma ≤ 1000000) := Lib.hid ⟨by have := Fa.out.n30; omega, by have := Fa.out.m50; omega⟩
  have hr0 : ∀ y ∈ Va, y.2.1.2.1 ≤ 1000000 := fun y hy => by have := Fa.out.r30 y hy; omega
  have hr1 : ∀ y ∈ Vb, y.2.1.2.1 ≤ 1000000 := fun y hy => by have := Fb.out.r30 y hy; omega
  have hga := Fa.out.good
  have hgb := Fb.out.good
  have HPa := Lib.hid (fun W h => put8_any Aa na ca Va Ba ma ka Ea W h hga hr0)
  have HPb := Lib.hid (fun W h => put8_any Ab nb cb Vb Bb mb kb Eb W h hgb hr1)
  have HSm := Lib.hid (fun W h1 h2 => rsame_any Aa na ca Va Ba ma ka Ea Ab nb cb Vb Bb mb kb Eb W h1 h2 Hn30.out.1 Hn30.out.2)
  have HCa : RowKit.Hid ((mayF7 Va Ea = 0 ∧ PbOk (pb Va Ea) Va Ea) ∨ (mayF7 Va Ea ≠ 0 ∧ (pb Va Ea).length = 0)) := Lib.hid (by
    by_cases hm : mayF7 Va Ea = 0
    · exact .inl ⟨hm, pbOk hm⟩
    · exact .inr ⟨hm, by unfold pb; rw [if_neg hm]; rfl⟩)
  have HCb : RowKit.Hid ((mayF7 Vb Eb = 0 ∧ PbOk (pb Vb Eb) Vb Eb) ∨ (mayF7 Vb Eb ≠ 0 ∧ (pb Vb Eb).length = 0)) := Lib.hid (by
    by_cases hm : mayF7 Vb Eb = 0
    · exact .inl ⟨hm, pbOk hm⟩
    · exact .inr ⟨hm, by unfold pb; rw [if_neg hm]; rfl⟩)
  obtain ⟨P, gP⟩ : ∃ z, pb Va Ea = z := ⟨_, rfl⟩
  obtain ⟨Q, gQ⟩ : ∃ z, pb Vb Eb = z := ⟨_, rfl⟩
  obtain ⟨ea, gea⟩ : ∃ z, mayF7 Va Ea = z := ⟨_, rfl⟩
  obtain ⟨eb, geb⟩ : ∃ z, mayF7 Vb Eb = z := ⟨_, rfl⟩
  rw [gP, gea] at HPa HCa
  rw [gQ, geb] at HPb HCb
  obtain ⟨la, gla⟩ : ∃ z, P.length = z := ⟨_, rfl⟩
  obtain ⟨lb, glb⟩ : ∃ z, Q.length = z := ⟨_, rfl⟩
  rw [gla] at HPa HCa
  rw [glb] at HPb HCb
  have Hla := Lib.hid gla
  have Hlb := Lib.hid glb
  have HK : RowKit.Hid (Bk w v18 (w.heap.size) ((w.heap.size + 1)) Aa na ca Va Ba ma ka Ea Ab nb cb Vb Bb mb kb Eb) := Lib.hid ⟨Bel_18.out, D0_18.out, D1_18.out, Da_18.out, Db_18.out⟩
  obtain ⟨g0, gg0⟩ : ∃ z, w.heap.size = z := ⟨_, rfl⟩
  obtain ⟨g1, gg1⟩ : ∃ z, (w.heap.size + 1) = z := ⟨_, rfl⟩
  obtain ⟨w0, gw0⟩ : ∃ z, v18 = z := ⟨_, rfl⟩
  rw [gg1, gg0, gw0] at HK
  try rw [gg1]
  try rw [gg0]
  rw [gw0]
  clear gg0 gg1 gw0 hr0 hr1 hga hgb gP gQ gea geb gla glb D0_18 D1_18 Da_18 Db_18 Bel_18
  have d0 := HK.out.x0.cell (i := 0) rfl
  have d1 := HK.out.x0.cell (i := 1) rfl
  go_upto_region 5 with (first
    | (go_at_call 25
       refine (HPa.out _ HK.out.da).mono ?_
       rintro e w4 ⟨A4, c4, rfl, hr4, hb4⟩
       have HK4 := Lib.hid (HK.out.bl hb4)
       have HA4 := Lib.hid (own_rds hr4)
       clear hr4 hb4 d0 d1))
  clear HK HPa
  have d0 := HK4.out.x1.cell (i := 0) rfl
  have d1 := HK4.out.x1.cell (i := 1) rfl
  go_upto_region 6 with (first
    | (go_at_call 25
       refine (HPb.out _ HK4.out.db).mono ?_
       rintro e w5 ⟨A5, c5, rfl, hr5, hb5⟩
       have HK5 := Lib.hid (HK4.out.bl hb5)
       have HA5 := Lib.hid (HA4.out.bl hb5)
       have HB5 := Lib.hid (own_rds hr5)
       clear hr5 hb5 d0 d1))
  clear HK4 HA4 HPb
  rcases HCa.out with ⟨rfl, hoa⟩ | ⟨hea, rfl⟩
  case inr =>
    have hq1 : (ea != 0) = true := by simp [hea]
    have hq2 : (ea == 0) = false := by simp [hea]
    rcases HCb.out with ⟨rfl, hob⟩ | ⟨heb, rfl⟩
    · clear hob HCa HCb
      go_wp2
      go_ret
      exact ⟨by first | rfl | simp, HK5.out.b⟩
    · have hq3 : (eb != 0) = true := by simp [heb]
      have hq4 : (eb == 0) = false := by simp [heb]
      clear HCa HCb
      go_wp2
      go_ret
      exact ⟨by first | rfl | simp, HK5.out.b⟩
  rcases HCb.out with ⟨rfl, hob⟩ | ⟨heb, rfl⟩
  case inr =>
    have hq3 : (eb != 0) = true := by simp [heb]
    have hq4 : (eb == 0) = false := by simp [heb]
    clear hoa HCa HCb
    go_wp2
    go_ret
    exact ⟨by first | rfl | simp, HK5.out.b⟩
  have hl4 : la ≤ 4000 := by have := hoa.max; have := Hla.out; omega
  have HTy : RowKit.Hid (∀ (A : Option Addr) (c : Nat) W, RdS W W.heap.size 1 A la c (rowsV f8 P) → Calls Try.prog 26 #[.slice A la c] W fun e w' => ∃ A' n' c' B' m' k' Ws, e = .returned (.tuple #[.agg #[.slice A' n' c', .slice B' m' k'], .int .i64 0]) ∧ ClS w' W.heap.size A' n' c' Ws B' m' k' Ea ∧ Ws.map vS = Va.map vS ∧ Below W.heap.size W w') := Lib.hid (fun A c W h => by
    have h9 := take_yes A la c P W h hoa.lt (by omega) hoa.ok
    rw [hoa.e, hoa.v] at h9
    exact h9)
  have hP1 : ∀ b ∈ P ++ [0], b < 256 := fun b hb => by
    rcases List.mem_append.1 hb with q | q
    · exact hoa.lt b q
    · obtain rfl := List.mem_singleton.1 q
      decide
  have HTn : RowKit.Hid (∀ (A : Option Addr) (c : Nat) W, RdS W W.heap.size 1 A (la + 1) c (rowsV f8 (P ++ [0])) → Calls Try.prog 26 #[.slice A (la + 1) c] W fun e w' => e = .returned (.tuple #[.agg #[.slice none 0 0, .slice none 0 0], .int .i64 2]) ∧ Below W.heap.size W w') := Lib.hid (fun A c W h => take_no A (la + 1) c _ W h hP1 (by omega) (hoa.more 0))
  have HTt : RowKit.Hid (∀ (A : Option Addr) (c t : Nat) W, t < la → RdS W W.heap.size 1 A t c (rowsV f8 (P.take t)) → Calls Try.prog 26 #[.slice A t c] W fun e w' => e = .returned (.tuple #[.agg #[.slice none 0 0, .slice none 0 0], .int .i64 2]) ∧ Below W.heap.size W w') := Lib.hid (fun A c t W ht h => take_no A t c _ W h (fun b hb => hoa.lt b (List.mem_of_mem_take hb)) (by omega) (hoa.less t (by have := Hla.out; omega)))
  have HSx : RowKit.Hid (∀ (A : Option Addr) (n c : Nat) (Ws : List VC) (B : Option Addr) (m k : Nat) W, DgIn W A n c Ws B m k Ea → DgIn W Aa na ca Va Ba ma ka Ea → Ws.map vS = Va.map vS → Calls Try.prog 27 #[.agg #[.slice A n c, .slice B m k], .agg #[.slice Aa na ca, .slice Ba ma ka]] W fun e w' => e = .returned (.bool true) ∧ Below W.heap.size W w') := Lib.hid (fun A n c Ws B m k W h1 h2 hw => by
    have q1 : n ≤ 1000000 := by
      have e1 := h1.v.rlen vC_len (by decide)
      have e2 := h2.v.rlen vC_len (by decide)
      have e3 := congrArg List.length hw
      rw [List.length_map, List.length_map] at e3
      have := Hn30.out.1
      omega
    have q2 : m ≤ 1000000 := by
      have e1 := h1.e.rlen eC_len (by decide)
      have e2 := h2.e.rlen eC_len (by decide)
      have := Hn30.out.2
      omega
    have h9 := rsame_any A n c Ws B m k Ea Aa na ca Va Ba ma ka Ea W h1 h2 q1 q2
    rwa [decide_eq_true ⟨hw, rfl⟩] at h9)
  obtain ⟨bq, gbq⟩ : ∃ z, decide (Va.map vS = Vb.map vS ∧ Ea = Eb) = z := ⟨_, rfl⟩
  rw [gbq] at HSm
  have htx := txt_eq hoa.lt hob.lt
  rw [pb_inj hoa hob, gbq] at htx
  obtain ⟨t1, gt1⟩ : ∃ z, txt P = z := ⟨_, rfl⟩
  obtain ⟨t2, gt2⟩ : ∃ z, txt Q = z := ⟨_, rfl⟩
  have HV1 : RowKit.Hid (∀ (A : Option Addr) (c : Nat) W, RdS W W.heap.size 1 A la c (rowsV f8 P) → (convert 43 9 (.slice A la c)).run Try.prog W = .ok (.string t1) W) := Lib.hid (fun A c W h => gt1 ▸ conv_txt h)
  have HV2 : RowKit.Hid (∀ (A : Option Addr) (c : Nat) W, RdS W W.heap.size 1 A lb c (rowsV f8 Q) → (convert 43 9 (.slice A lb c)).run Try.prog W = .ok (.string t2) W) := Lib.hid (fun A c W h => gt2 ▸ conv_txt h)
  rw [gt1, gt2] at htx
  have Htx := Lib.hid htx
  clear htx gt1 gt2 gbq hP1 hoa hob HCa HCb
  have Hl4 := Lib.hid hl4
  clear hl4
  go_upto_region 9 with (first
    | (go_at_call 26
       refine (HTy.out _ _ _ HA5.out).mono ?_
       rintro e w8 ⟨A8, n8, c8, B8, m8, k8, Wx, rfl, hc8, hs8, hb8⟩
       have hE : Ext w8 (w8.alloc (.cells #[.slice A8 n8 c8, .slice B8 m8 k8] 25)) := below1 w8 _
       have HK8 := Lib.hid ((HK5.out.bl hb8).bl hE)
       have HA8 := Lib.hid ((HA5.out.bl hb8).bl hE)
       have HB8 := Lib.hid ((HB5.out.bl hb8).bl hE)
       have HC8 := Lib.hid (hc8.bl hE)
       have HX8 : RowKit.Hid (Whole (w8.alloc (.cells #[.slice A8 n8 c8, .slice B8 m8 k8] 25)) w8.heap.size 25 [.slice A8 n8 c8, .slice B8 m8 k8]) := Lib.hid (Whole.new_ _ _ [_, _])
       have HS8 := Lib.hid hs8
       clear hc8 hs8 hb8 hE))
  clear HK5 HA5 HB5 HTy
  obtain ⟨w9, gw9⟩ : ∃ z, w8.alloc (.cells #[.slice A8 n8 c8, .slice B8 m8 k8] 25) = z := ⟨_, rfl⟩
  obtain ⟨b8, gb8⟩ : ∃ z, w8.heap.size = z := ⟨_, rfl⟩
  rw [gw9] at HK8 HA8 HB8 HC8 HX8 ⊢
  rw [gb8] at HX8 ⊢
  clear gw9 gb8
  have d0 := HK8.out.x0.cell (i := 0) rfl
  have d1 := HK8.out.x0.cell (i := 1) rfl
  have q0 := HX8.out.cell (i := 0) rfl
  have q1 := HX8.out.cell (i := 1) rfl
  go_upto_region 10 with (first
    | (go_at_call 27
       refine (HSx.out _ _ _ _ _ _ _ _ HC8.out.wr.dg HK8.out.da HS8.out).mono ?_
       rintro e w10 ⟨rfl, hb10⟩
       have HK10 := Lib.hid (HK8.out.bl hb10)
       have HA10 := Lib.hid (HA8.out.bl hb10)
       have HB10 := Lib.hid (HB8.out.bl hb10)
       clear hb10 d0 d1 q0 q1))
  clear HK8 HA8 HB8 HC8 HX8 HS8 HSx
  have d0 := HK10.out.x0.cell (i := 0) rfl
  have d1 := HK10.out.x0.cell (i := 1) rfl
  have q0 := HK10.out.x1.cell (i := 0) rfl
  have q1 := HK10.out.x1.cell (i := 1) rfl
  go_upto_region 11 with (first
    | (go_at_call 27
       refine (HSm.out _ HK10.out.da HK10.out.db).mono ?_
       rintro e w11 ⟨rfl, hb11⟩
       have HB11 : RowKit.Hid (Below w.heap.size w w11) := Lib.hid (bel_bl HK10.out.b hb11)
       have HA11 := Lib.hid (HA10.out.bl hb11)
       have HQ11 := Lib.hid (HB10.out.bl hb11)
       clear hb11 d0 d1 q0 q1))
  clear HK10 HA10 HB10 HSm
  have hO0 : Ow w11 w11.heap.size 5 1 (.slice (some ⟨w11.heap.size, 0, none⟩) 0 0) 0 (rowsV f8 []) (w11.alloc (.cells #[] 5)) := Ow.new_ (cs := #[]) (Below.refl _ _) (Nat.le_refl _) (Nat.le_refl _) (Nat.zero_le _) rfl
  obtain ⟨A6, c6, W6, hrun6, ho6, -⟩ := app8 43 hO0 (HA11.out.al (.cells #[] 5)) (by have := Hl4.out; omega)
  rw [Nat.zero_add, List.nil_append] at ho6
  rw [Nat.zero_add] at hrun6
  obtain ⟨A7, c7, W7, hrun7, ho7, -⟩ := app8 43 (ho6.up (below1 W6 (.cells #[.int .u8 ((0 : Nat) : Int)] 5))) (one8 W6 0) (by have := Hl4.out; omega)
  have h00 : ((0 : Nat) : Int) = 0 := rfl
  rw [h00] at hrun7
  have hE7 : Ext w11 W7 := ho7.below
  have HA7 := Lib.hid (HA11.out.bl hE7)
  have HQ7 := Lib.hid (HQ11.out.bl hE7)
  have HB7 : RowKit.Hid (Below w.heap.size w W7) := Lib.hid (bel_bl HB11.out hE7)
  have HC7 := Lib.hid (own_rds ho7.own)
  clear hO0 ho6 ho7 hE7 h00
  go_upto_region 12 with (first
    | (at_builtin
       refine wl_run (some 74) rfl (by rfl) (exec_append (by rfl) (by rfl) (by rfl) hrun6) ?_
       clear hrun6)
    | (at_builtin
       refine wl_run (some 76) rfl (by rfl) (exec_append (by rfl) (by rfl) (by rfl) hrun7) ?_
       clear hrun7)
    | (go_at_call 26
       refine (HTn.out _ _ _ HC7.out).mono ?_
       rintro e w12 ⟨rfl, hb12⟩
       have hE := Ext.trans hb12 (below1 w12 (.cells #[.slice none 0 0, .slice none 0 0] 25))
       have HA12 := Lib.hid (HA7.out.bl hE)
       have HQ12 := Lib.hid (HQ7.out.bl hE)
       have HB12 := Lib.hid (bel_bl HB7.out hE)
       clear hb12 hE))
  clear HA11 HQ11 HB11 HA7 HQ7 HB7 HC7 HTn
  obtain ⟨w13, gw13⟩ : ∃ z, w12.alloc (.cells #[.slice none 0 0, .slice none 0 0] 25) = z := ⟨_, rfl⟩
  obtain ⟨b12, gb12⟩ : ∃ z, w12.heap.size = z := ⟨_, rfl⟩
  rw [gw13] at HA12 HQ12 HB12 ⊢
  rw [gb12]
  clear gw13 gb12
  have v1 := HV1.out _ _ _ HA12.out
  have v2 := HV2.out _ _ _ HQ12.out
  have htx := Htx.out
  have hnq : (bq != bq) = false := by simp
  go_upto_region 14 with fail
  clear v1 v2 htx hnq HV1 HV2 Htx HQ12
  by_cases hx0 : x < 0
  · go_wp2
    go_ret
    exact ⟨by first | rfl | simp, HB12.out⟩
  by_cases hx1 : (la : Int) ≤ x
  · go_wp2
    go_ret
    exact ⟨by first | rfl | simp, HB12.out⟩
  obtain ⟨t, rfl⟩ := Int.eq_ofNat_of_zero_le (show 0 ≤ x by omega)
  have htl : t < la := by omega
  have htc : t ≤ c4 := by have := HA12.out.le; omega
  have hs := HA12.out.take_ t (Nat.le_of_lt htl)
  rw [Nat.mul_one, rowsV_map8, ← List.map_take, ← rowsV_map8] at hs
  have HS := Lib.hid hs
  clear hs
  go_wp2_with (first
    | (go_at_call 26
       refine (HTt.out _ _ t _ htl HS.out).mono ?_
       rintro e w14 ⟨rfl, hb14⟩
       have HB14 := Lib.hid (bel_bl HB12.out (Ext.trans hb14 (below1 w14 (.cells #[.slice none 0 0, .slice none 0 0] 25))))
       clear hb14))
  go_ret
  exact ⟨by first | rfl | simp, HB14.out⟩
end Go.Proofs.Ytahbfdhjgnlmdaa
