/- The law SenderKeeps. -/
import Derived.Test.YthhkimjafgghiaaSd7
namespace Go.Proofs.Ythhkimjafgghiaa
open Go.RowKit
set_option linter.unusedSimpArgs false
set_option linter.unusedVariables false

theorem nums_at {a n j : Nat} (h : j < n) : (rowsV intC (nums a n))[j]? = some (.int .i64 ((a : Int) + (j : Int) + 1)) := by
  have h1 : (nums a n)[j]? = some ((a : Int) + (j : Int) + 1) := by simp [nums, h]
  have := rowsV_get intC intC_len (nums a n) j _ h1 0 _ rfl
  simpa using this
def KeepIn (w : World) (g win k ack : Nat) (v : Value) (wr : World) : Prop := ∃ PL ps A c es q, KsIn w wr g win k ack v PL ps A c es q
set_option maxRecDepth 100000 in
set_option maxHeartbeats 8000000 in
theorem law_keeps (x : Int) (A : Option Addr) (n c : Nat) (Es : List Ar) (y : Int) (w : World) (h : RdS w w.heap.size 1 A n c (rowsV slCells Es)) (he : ∀ e ∈ Es, ArOk w e) (hn : n ≤ maxLen) :
    Calls Try.prog 4 #[.int .i64 x, .slice A n c, .int .i64 y] w fun e w' => e = .returned (.bool true) ∧ Below w.heap.size w w' := by
  have hl := h.rlen slCells_len (by decide)
  unfold maxLen at hn
  obtain ⟨v15, hv15, e15⟩ := and_15 x
  obtain ⟨v7, hv7, e7⟩ := and_7 y
  obtain ⟨win, gwin⟩ : ∃ win : Nat, win = 1 + v15 := ⟨_, rfl⟩
  obtain ⟨kk, gkk⟩ : ∃ kk : Nat, kk = 1 + v7 := ⟨_, rfl⟩
  have hw1 : 1 ≤ win := by omega
  have hw2 : win ≤ 16 := by omega
  have hk1 : 1 ≤ kk := by omega
  have hk2 : kk ≤ 8 := by omega
  have a1 : (1 : Int) + (v15 : Int) = (win : Int) := by omega
  have a2 : (1 : Int) + (v7 : Int) = (kk : Int) := by omega
  have a3 : IntKind.i64.wrap (win : Int) = (win : Int) := IntWalk.i64_in _ (by omega)
  have a4 : IntKind.i64.wrap (kk : Int) = (kk : Int) := IntWalk.i64_in _ (by omega)
  have HR := Lib.hid h
  have HE := Lib.hid he
  have Hl := Lib.hid hl
  obtain ⟨i0, hi, hz0, hz1, hz2⟩ := info_parts_ info_u8
  clear h he hl gwin gkk hv15 hv7
  go_enter Try.func4, Try.ntmps4
  go_wp2_with fail
  refine (shown16 _).mono ?_
  rintro e w1 ⟨rfl, hb1⟩
  have HB1 := Lib.hid hb1
  clear hb1
  go_wp2_with fail
  clear a1 a2 a3 a4 e15 e7
  refine (new_any (win : Int) w1).mono ?_
  rintro e w2 ⟨g, win', rfl, hwin, hS, hb2⟩
  obtain rfl : win' = win := by omega
  have HB2 : RowKit.Hid (Below w.heap.size w w2) := Lib.hid (bel_bl HB1.out hb2)
  have hS2 : SdIn w.heap.size w2 g win' 0 [] none 0 [] none := ⟨hS.box, Nat.le_trans HB1.out.size hS.lo, hS.row, .inl ⟨rfl, World.ownsRow_nil _ _ _ _⟩, hS.rne, hS.kne, hS.each⟩
  have HK0 : RowKit.Hid (KeepIn w g win' 0 0 (.slice (some ⟨w2.heap.size, 0, none⟩) 0 0) (w2.alloc (.cells #[] 32))) := Lib.hid ⟨[], [], none, 0, [], none, hS2.below (below1 _ _), bel_al HB2.out _,
    ⟨(Ow.new_ (w := w) (B := w.heap.size) (W := w2) (e := 32) (size := 1) (n := 0) (cs := #[]) HB2.out (Nat.le_refl _) HB2.out.size (Nat.zero_le _) rfl).own, rfl, fun i L hL => (by simp at hL)⟩,
    fun b hb => (by obtain rfl := Option.some.inj hb; exact hS2.fresh (Nat.le_refl _)), Nat.le_refl _, Nat.zero_le _, Nat.zero_le _⟩
  clear hwin hS hb2 HB1 HB2 hS2
  go_wp2
  obtain ⟨win, gwn⟩ : ∃ z, win' = z := ⟨_, rfl⟩
  rw [gwn] at HK0 hw1 hw2 ⊢
  clear gwn
  obtain ⟨W3, gW3⟩ : ∃ z, w2.alloc (.cells #[] 32) = z := ⟨_, rfl⟩
  obtain ⟨g3, gg3⟩ : ∃ z, w2.heap.size = z := ⟨_, rfl⟩
  rw [gW3, gg3] at HK0
  rw [gW3, gg3]
  clear gW3 gg3
  go_loopw [11, 12, 13] (fun sa sv si wr => ∃ k ack : Nat, k ≤ 60 ∧ si = .int .i64 k ∧ sa = .int .i64 ack ∧ RowKit.Hid (KeepIn w g win k ack sv wr)) (fun _ _ si _ => 60 - (intOf si).toNat)
  case atStart => exact ⟨0, 0, by omega, rfl, rfl, HK0⟩
  case round =>
    rename_i wr _
    clear HK0
    obtain ⟨k, ack, hk, rfl, rfl, HA⟩ := hrel
    obtain ⟨PL, ps, As, cs, es, q, hK⟩ := HA.out
    obtain ⟨Av, cv, rfl, hrv⟩ := RdS.of_own hK.pu.own
    have HK := Lib.hid hK
    have hle := hK.le
    have hlk := hK.lek
    have hwn := hK.win
    clear HA hK hrv
    by_cases hlt : k < n ∧ k < 60
    · obtain ⟨hkn, hk60⟩ := hlt
      have t1 : decide (k < n) = true := decide_eq_true hkn
      have t2 : decide ((k : Int) < 60) = true := decide_eq_true (by omega)
      obtain ⟨⟨a, m, c0, L0⟩, hx⟩ : ∃ x, Es[k]? = some x := ⟨_, List.getElem?_eq_getElem (by have := Hl.out; omega)⟩
      obtain ⟨hm, hr0, h256⟩ := HE.out _ (List.mem_of_getElem? hx)
      obtain ⟨bb, off, hA, hbB, hpl⟩ := HR.out.place slCells_len (by decide) (by omega)
      have hc0 := hpl k _ hx 0 _ rfl
      rw [Addr.add_lit] at hc0
      simp only [Nat.add_zero, Nat.mul_one] at hc0
      subst hA
      have HC0 := Lib.hid hc0
      have Hr0 := Lib.hid hr0
      have hs := fun W hr => short_any a m c0 L0 W hr (Nat.le_trans hr0.le hm)
      have hrt := hr0.fewer8 60
      have hb6 : ∀ b ∈ L0.take 60, b < 256 := fun b hb => h256 b (List.mem_of_mem_take hb)
      have h60 : (L0.take 60).length ≤ 60 := by rw [List.length_take]; omega
      obtain ⟨L, gL⟩ : ∃ y, L0.take 60 = y := ⟨_, rfl⟩
      rw [gL] at hs hrt hb6 h60
      have HSh := Lib.hid hs
      have HRt := Lib.hid hrt
      have Hb6 := Lib.hid hb6
      have Hbb := Lib.hid hbB
      have lc := (bel_al HK.out.below (.cells #[] 5)).cell (p := ⟨bb, off + k, none⟩) hbB
      rw [hc0] at lc
      clear hx hm hr0 h256 hpl hc0 hs hrt hb6 gL hbB
      go_upto_region 12 with fail
      clear t1 t2
      have HRa := Lib.hid (Hr0.out.up (bel_al HK.out.below (.cells #[] 5)) (bel_al HK.out.below (.cells #[] 5)).size)
      have HRb := Lib.hid (HRt.out.up (bel_al HK.out.below (.cells #[] 5)) (bel_al HK.out.below (.cells #[] 5)).size)
      go_wp2_with (first
        | (go_at_call 13
           refine (HSh.out _ HRa.out).mono ?_
           rintro e w3 ⟨rfl, rfl⟩)
        | (at_builtin
           refine wpList_push2 rfl (.tmp 49) (.tmp 54) _ rfl _ 5 i0 _ 1 1 Try.underlying32 hi hz0 hz1 hz2 rfl (by decide) _ _ _ rfl (Ow.new_ (cs := #[]) (Below.refl _ _) (Nat.le_refl _) (Nat.le_refl _) (Nat.zero_le _) rfl) _ _ _ _ _ rfl HRb.out (f8_all _) (by unfold maxLen; omega) (by omega) ?_
           intro v1 w4 how1 hb4 hgr
           rw [Nat.zero_add, List.nil_append] at how1
           obtain ⟨Ap, cp, rfl, hr4⟩ := how1.rds
           have HOW := Lib.hid how1
           have HRp := Lib.hid hr4
           clear how1 hb4 hgr hr4))
      have HK4 := Lib.hid (HK.out.down HOW.out.below)
      have HP := Lib.hid (push_ks w4 HK4.out (by omega) Ap cp L HRp.out Hb6.out h60)
      obtain ⟨d, gd⟩ : ∃ d, PL.length - ack = d := ⟨_, rfl⟩
      obtain ⟨fb, gfb⟩ : ∃ b, decide (win ≤ d) = b := ⟨_, rfl⟩
      rw [gd, gfb] at HP
      have hsub : (PL.length : Int) - (ack : Int) = (d : Int) := by omega
      have hwd : IntKind.i64.wrap (d : Int) = (d : Int) := IntWalk.i64_in _ (by omega)
      have hpl60 : PL.length ≤ 60 := by omega
      clear gd HOW HRa HRb HRp lc HK HK4
      refine HP.out.mono ?_
      rintro e w5 ⟨nn, ee, rfl, hpd⟩
      have HPd := Lib.hid hpd
      clear hpd HP
      go_upto_region 14 with fail
      clear hsub hwd
      go_cut [83] (fun v z => v = .bool false ∧ z = w5)
      case first =>
        rcases HPd.out with ⟨rfl, rfl, rfl, -⟩ | ⟨rfl, rfl, rfl, -⟩
        · go_wp2_with fail
          go_meet
          exact ⟨rfl, rfl⟩
        · go_wp2_with fail
          go_meet
          exact ⟨rfl, rfl⟩
      case rest =>
        obtain ⟨rfl, hcz⟩ := hcut
        subst hcz
        go_upto_if 85 with fail
        go_cut [12] (fun v' z => RowKit.Hid (KeepIn w g win (k + 1) ack v' z))
        case first =>
          rcases HPd.out with ⟨rfl, rfl, rfl, A1, c1, es1, q1, hK1⟩ | ⟨rfl, rfl, rfl, hl1, hl2, hl3, hb5, hp5, A1, c1, es1, q1, hS5, hf5⟩
          · have HK1 := Lib.hid hK1
            clear hK1
            go_wp2_with fail
            go_meet
            exact Lib.hid ⟨_, _, _, _, _, _, HK1.out.more⟩
          · have lc := hb5.cell (p := ⟨bb, off + k, none⟩) Hbb.out
            rw [HC0.out] at lc
            have HRa := Lib.hid (Hr0.out.up hb5 hb5.size)
            obtain ⟨v', W6, hrun, hp6, hk6, ho6⟩ := (hp5.below (below1 wc (.cells #[.slice a L.length c0] 32))).app (by omega) 34 (bel_al hb5 _).size (wc.heap.size + 1) (some ⟨wc.heap.size, 0, none⟩) 1 a c0 L (by have := RdS.of_whole (size := 1) (n := 1) (Whole.new_ wc 32 [.slice a L.length c0]) rfl; exact this.up (Below.refl _ _) (by simp)) HRt.out Hb6.out
            have HF : RowKit.Hid (KeepIn w g win (k + 1) ack v' W6) := Lib.hid ⟨_, _, _, _, _, _, Pushed.both hl1 hl2 hl3 (bel_al hb5 _) (hS5.below (below1 _ _)) hf5 (fun b hb => (hp5.lt hb).1) hp6 hk6 ho6⟩
            have Hrun := Lib.hid hrun
            clear hb5 hp5 hS5 hf5 hp6 hk6 ho6 hrun hl1 hl2 hl3
            go_wp2_with (first
              | (go_at_call 13
                 refine (HSh.out _ HRa.out).mono ?_
                 rintro e w3 ⟨rfl, rfl⟩)
              | (at_builtin
                 refine wpList_app rfl (.tmp 86) (.tmp 92) _ rfl rfl rfl Hrun.out ?_))
            go_meet
            exact HF
        case rest =>
          clear HPd
          obtain ⟨PL1, ps1, A1, c1, es1, q1, hK1⟩ := hcut.out
          obtain ⟨Av1, cv1, gv1, -⟩ := RdS.of_own hK1.pu.own
          subst gv1
          have HK1 := Lib.hid hK1
          have hle1 := hK1.le
          have hlk1 := hK1.lek
          clear hK1 hcut
          go_upto_region 18 with fail
          obtain ⟨r, gr⟩ : ∃ r, k % kk = r := ⟨_, rfl⟩
          have r1 : (k : Int) % (kk : Int) = (r : Int) := by rw [← gr]; exact (Int.natCast_emod k kk).symm
          have r2 : (k : Int).tmod (kk : Int) = (r : Int) := by rw [Int.tmod_eq_emod_of_nonneg (by omega)]; exact r1
          have r3 : IntKind.i64.wrap (r : Int) = (r : Int) := IntWalk.i64_in _ (by have := Nat.mod_lt k (show 0 < kk by omega); omega)
          have z1 : ((kk : Int) == 0) = false := beq_eq_false_iff_ne.2 (by omega)
          have z2 : ¬ (kk : Int) = 0 := by omega
          have z3 : ¬ kk = 0 := by omega
          clear gr
          go_cut [103] (fun v z => ∃ tb : Bool, v = .bool tb ∧ (tb = true → ack < PL1.length) ∧ z = wc)
          case first =>
            by_cases hr0 : r = 0
            · have e0 : ((r : Int) == 0) = true := by rw [hr0]; rfl
              clear hr0
              by_cases hal : ack < PL1.length
              · have e1 : decide (ack < PL1.length) = true := decide_eq_true hal
                go_wp2_with fail
                go_meet
                exact ⟨true, rfl, fun _ => hal, rfl⟩
              · have e1 : decide (ack < PL1.length) = false := decide_eq_false hal
                go_wp2_with fail
                go_meet
                exact ⟨false, rfl, fun e => (by cases e), rfl⟩
            · have e0 : ((r : Int) == 0) = false := beq_eq_false_iff_ne.2 (by omega)
              clear hr0
              go_wp2_with fail
              go_meet
              exact ⟨false, rfl, fun e => (by cases e), rfl⟩
          case rest =>
            obtain ⟨tb, rfl, htb, hcz⟩ := hcut
            subst hcz
            have Htb := Lib.hid htb
            clear htb r1 r2 r3 z1 z2 z3
            go_upto_if 103 with fail
            go_cut [11] (fun sa z => ∃ ack' : Nat, sa = .int .i64 ack' ∧ RowKit.Hid (∃ A' c' es' q', KsIn w z g win (k + 1) ack' (.slice Av1 PL1.length cv1) PL1 ps1 A' c' es' q'))
            case first =>
              cases tb
              · go_wp2_with fail
                go_meet
                exact ⟨ack, rfl, Lib.hid ⟨_, _, _, _, HK1.out⟩⟩
              · have hal := Htb.out rfl
                have HA1 := Lib.hid (ack_ks wc HK1.out (by omega) hal)
                go_wp2_with (first
                  | (go_at_call 12
                     refine HL7.out.mono ?_
                     rintro e w8 ⟨rfl, rfl⟩)
                  | (go_at_call 12
                     refine HA1.out.mono ?_
                     rintro e w7 ⟨rfl, A7, c7, es7, q7, hK7⟩
                     have HK7 := Lib.hid hK7
                     have HL7 := Lib.hid (ack_lo w7 hK7.sd (by omega) (by rw [List.length_drop]; omega) (ack : Int) (by omega))
                     clear hK7))
                go_meet
                exact ⟨ack + 1, by go_num, Lib.hid ⟨_, _, _, _, HK7.out⟩⟩
            case rest =>
              obtain ⟨ack1, rfl, hK2⟩ := hcut
              obtain ⟨A2, c2, es2, q2, hK2⟩ := hK2.out
              have HK2 := Lib.hid hK2
              have hle2 := hK2.le
              have hwn2 := hK2.win
              have hD := due_any wc hK2.sd (by omega) (by rw [List.length_drop]; omega)
              obtain ⟨D, gD⟩ : ∃ D, (PL1.drop ack1).length = D := ⟨_, rfl⟩
              rw [gD] at hD
              rw [List.length_drop] at gD
              have HD := Lib.hid hD
              have hsub : (PL1.length : Int) - (ack1 : Int) = (D : Int) := by omega
              have hwd : IntKind.i64.wrap (D : Int) = (D : Int) := IntWalk.i64_in _ (by omega)
              have hDw : decide (win < D) = false := decide_eq_false (by omega)
              have hDn : D + ack1 = PL1.length := by omega
              have HDn := Lib.hid hDn
              clear hK2 hD gD HK1 Htb
              go_wp2_with (first
                | (go_at_call 17
                   refine HD.out.mono ?_
                   rintro e w8 ⟨gd, rfl, hgd, hW8, hb8⟩
                   have HK8 := Lib.hid (HK2.out.down hb8)
                   have HW8 := Lib.hid hW8
                   clear hgd hW8 hb8))
              clear hsub hwd hDw hDn HK2 HD
              have hD60 : D ≤ 61 := by have := HDn.out; omega
              go_loopw [18] (fun sj wr2 => ∃ j : Nat, j ≤ D ∧ sj = .int .i64 j ∧ RowKit.Hid (KsIn w wr2 g win (k + 1) ack1 (.slice Av1 PL1.length cv1) PL1 ps1 A2 c2 es2 q2 ∧ Whole wr2 gd 3 (rowsV intC (nums ack1 D)))) (fun sj _ => D - (intOf sj).toNat)
              case atStart => exact ⟨0, by omega, rfl, Lib.hid ⟨HK8.out, HW8.out⟩⟩
              case round =>
                clear HK8 HW8
                obtain ⟨j, hj, rfl, HI⟩ := hrel
                by_cases hjd : j < D
                · obtain ⟨X, hX⟩ : ∃ X : Int, (ack1 : Int) + (j : Int) + 1 = X := ⟨_, rfl⟩
                  have ld := HI.out.2.cell (i := j) (v := .int .i64 X) (by rw [← hX]; exact nums_at hjd)
                  obtain ⟨Lj, hLj⟩ : ∃ z, PL1[ack1 + j]? = some z := ⟨_, List.getElem?_eq_getElem (by have := HDn.out; omega)⟩
                  have hdr : (PL1.drop ack1)[j]? = some Lj := by rw [List.getElem?_drop]; exact hLj
                  obtain ⟨aj, mj, p1, p2, p3⟩ := HI.out.1.pu.each _ _ hLj
                  have HBo := Lib.hid (body_yes wr HI.out.1.sd (by omega) (by rw [List.length_drop]; omega) X j Lj hdr (by omega))
                  have hrow := (RdS.of_own HI.out.1.pu.own)
                  obtain ⟨Ax, cx, ex, hrx⟩ := hrow
                  injection ex with ex1 _ ex3
                  subst ex1 ex3
                  obtain ⟨bv, offv, gAv, -, -⟩ := hrx.place slc_len (by decide) (by have := HDn.out; omega)
                  subst gAv
                  obtain ⟨r, gr⟩ : ∃ r, ack1 + j = r := ⟨_, rfl⟩
                  rw [gr] at p1
                  have hcp := hrx.cell _ rfl r _ (rowsV_atS p1)
                  rw [Addr.add_lit] at hcp
                  have Hcp := Lib.hid hcp
                  have s1 : IntKind.i64.wrap ((ack1 : Int) + 1) = (ack1 : Int) + 1 := IntWalk.i64_in _ (by omega)
                  have s2 : IntKind.i64.wrap (X - 1) = (r : Int) := by rw [IntWalk.i64_in _ (by omega)]; omega
                  have s3 : IntKind.i64.wrap ((ack1 : Int) + 1 + (j : Int)) = X := by rw [IntWalk.i64_in _ (by omega)]; omega
                  have s4 : r < PL1.length := by have := HDn.out; omega
                  have S1 := Lib.hid s1
                  have S2 := Lib.hid s2
                  have S3 := Lib.hid s3
                  have P2 := Lib.hid p2
                  have HX := Lib.hid hX
                  clear hX hLj hdr p1 p2 p3 hrx hcp gr s1 s2 s3
                  go_upto_region 29 with (first
                    | (go_at_call 19
                       refine HBo.out.mono ?_
                       rintro e w9 ⟨Ab, cb, rfl, hrb, -, hb9⟩
                       have HI9 := Lib.hid (And.intro (HI.out.1.down hb9) (HI.out.2.below hb9))
                       have HRb := Lib.hid hrb
                       have Hcp9 := Lib.hid (hb9.cell (p := ⟨bv, offv + r, none⟩) (World.block_lt_of_cell? wr _ Hcp.out) |>.trans Hcp.out)
                       clear hrb hb9 ld))
                  have s1 := S1.out
                  have s2 := S2.out
                  have s3 := S3.out
                  have ldd : ∀ w', Kept Nil_ w9.drew w' → w'.cell? ⟨gd, j, none⟩ = some (.int .i64 X) := fun w' hk => hk.nil_cell (HI9.out.2.drew.cell (i := j) (v := .int .i64 X) (by rw [← HX.out]; exact nums_at hjd))
                  have ldp : ∀ w', Kept Nil_ w9.drew w' → w'.cell? ⟨bv, offv + r, none⟩ = some (.slice aj Lj.length mj) := fun w' hk => hk.nil_cell (show w9.drew.cell? ⟨bv, offv + r, none⟩ = _ from Hcp9.out)
                  obtain ⟨T, gT⟩ : ∃ z, txt Lj = z := ⟨_, rfl⟩
                  have KB : ∀ {u v : World}, Kept Nil_ u v → Below u.heap.size u v := fun h => h.below (Nat.le_refl _) (fun _ _ h => h)
                  have HT1 : RowKit.Hid (∀ w', Kept Nil_ w9.drew w' → (convert 32 9 (.slice Ab Lj.length cb)).run Try.prog w' = .ok (.string T) w') := Lib.hid (fun w' hk => gT ▸ conv_txt (HRb.out.dr.bl (KB hk)))
                  have HT2 : RowKit.Hid (∀ w', Kept Nil_ w9.drew w' → (convert 32 9 (.slice aj Lj.length mj)).run Try.prog w' = .ok (.string T) w') := Lib.hid (fun w' hk => gT ▸ conv_txt ((P2.out.up (bel_dr HI9.out.1.below) (bel_dr HI9.out.1.below).size).bl (KB hk)))
                  clear gT KB
                  refine wp_region_reg (Nil_) (by kernel_rfl) ?_
                  apply wpR_next 0 (some 147)
                  · simp only [List.getElem?_toArray, List.getElem?_cons_succ, List.getElem?_cons_zero]; exact rfl
                  · rfl
                  · kernel_rfl
                  · kernel_rfl
                  · kernel_rfl
                  · exact fun _ _ _ _ h => h
                  apply Exists.intro
                  apply And.intro
                  · apply yr_run; rfl; intro w' hw'; go_simp; (try with_reducible rfl)
                  simp only [Act.put, List.setIfInBounds_toArray, List.set_cons_zero, List.set_cons_succ]
                  apply wpR_next 1 (some 148)
                  · simp only [List.getElem?_toArray, List.getElem?_cons_succ, List.getElem?_cons_zero]; exact rfl
                  · rfl
                  · kernel_rfl
                  · kernel_rfl
                  · kernel_rfl
                  · exact fun _ _ _ _ h => h
                  apply Exists.intro
                  apply And.intro
                  · apply yr_run; rfl; intro w' hw'; go_simp; (try with_reducible rfl)
                  simp only [Act.put, List.setIfInBounds_toArray, List.set_cons_zero, List.set_cons_succ]
                  apply wpR_next 2 (some 149)
                  · simp only [List.getElem?_toArray, List.getElem?_cons_succ, List.getElem?_cons_zero]; exact rfl
                  · rfl
                  · kernel_rfl
                  · kernel_rfl
                  · kernel_rfl
                  · exact fun _ _ _ _ h => h
                  apply Exists.intro
                  apply And.intro
                  · apply yr_run; rfl; intro w' hw'; go_simp; (try with_reducible rfl)
                  simp only [Act.put, List.setIfInBounds_toArray, List.set_cons_zero, List.set_cons_succ]
                  apply wpR_next 3 (some 150)
                  · simp only [List.getElem?_toArray, List.getElem?_cons_succ, List.getElem?_cons_zero]; exact rfl
                  · rfl
                  · kernel_rfl
                  · kernel_rfl
                  · kernel_rfl
                  · exact fun _ _ _ _ h => h
                  apply Exists.intro
                  apply And.intro
                  · apply yr_run; rfl; intro w' hw'; go_simp; (try with_reducible rfl)
                  simp only [Act.put, List.setIfInBounds_toArray, List.set_cons_zero, List.set_cons_succ]
                  apply wpR_next 4 (some 151)
                  · simp only [List.getElem?_toArray, List.getElem?_cons_succ, List.getElem?_cons_zero]; exact rfl
                  · rfl
                  · kernel_rfl
                  · kernel_rfl
                  · kernel_rfl
                  · exact fun _ _ _ _ h => h
                  apply Exists.intro
                  apply And.intro
                  · apply yr_run; rfl; intro w' hw'; go_simp; (try with_reducible rfl)
                  simp only [Act.put, List.setIfInBounds_toArray, List.set_cons_zero, List.set_cons_succ]
                  apply wpR_next 5 (some 152)
                  · simp only [List.getElem?_toArray, List.getElem?_cons_succ, List.getElem?_cons_zero]; exact rfl
                  · rfl
                  · kernel_rfl
                  · kernel_rfl
                  · kernel_rfl
                  · exact fun _ _ _ _ h => h
                  apply Exists.intro
                  apply And.intro
                  · apply yr_run; rfl; intro w' hw'; go_simp; (try with_reducible rfl)
                  simp only [Act.put, List.setIfInBounds_toArray, List.set_cons_zero, List.set_cons_succ]
                  apply wpR_next 6 (some 153)
                  · simp only [List.getElem?_toArray, List.getElem?_cons_succ, List.getElem?_cons_zero]; exact rfl
                  · rfl
                  · kernel_rfl
                  · kernel_rfl
                  · kernel_rfl
                  · exact fun _ _ _ _ h => h
                  apply Exists.intro
                  apply And.intro
                  · apply yr_run; rfl; intro w' hw'; go_simp; (try with_reducible rfl)
                  simp only [Act.put, List.setIfInBounds_toArray, List.set_cons_zero, List.set_cons_succ]
                  apply wpR_next 7 (some 154)
                  · simp only [List.getElem?_toArray, List.getElem?_cons_succ, List.getElem?_cons_zero]; exact rfl
                  · rfl
                  · kernel_rfl
                  · kernel_rfl
                  · kernel_rfl
                  · exact fun _ _ _ _ h => h
                  apply Exists.intro
                  apply And.intro
                  · apply yr_run; rfl; intro w' hw'; go_simp; (try with_reducible rfl)
                  simp only [Act.put, List.setIfInBounds_toArray, List.set_cons_zero, List.set_cons_succ]
                  apply wpR_next 8 (some 155)
                  · simp only [List.getElem?_toArray, List.getElem?_cons_succ, List.getElem?_cons_zero]; exact rfl
                  · rfl
                  · kernel_rfl
                  · kernel_rfl
                  · kernel_rfl
                  · exact fun _ _ _ _ h => h
                  apply Exists.intro
                  apply And.intro
                  · apply yr_run; rfl; intro w' hw'; go_simp; (try with_reducible rfl)
                  simp only [Act.put, List.setIfInBounds_toArray, List.set_cons_zero, List.set_cons_succ]
                  apply wpR_next 9 (some 156)
                  · simp only [List.getElem?_toArray, List.getElem?_cons_succ, List.getElem?_cons_zero]; exact rfl
                  · rfl
                  · kernel_rfl
                  · kernel_rfl
                  · kernel_rfl
                  · exact fun _ _ _ _ h => h
                  apply Exists.intro
                  apply And.intro
                  · apply yr_run; rfl; intro w' hw'; go_simp; (try with_reducible rfl)
                  simp only [Act.put, List.setIfInBounds_toArray, List.set_cons_zero, List.set_cons_succ]
                  apply wpR_next 10 (some 157)
                  · simp only [List.getElem?_toArray, List.getElem?_cons_succ, List.getElem?_cons_zero]; exact rfl
                  · rfl
                  · kernel_rfl
                  · kernel_rfl
                  · kernel_rfl
                  · exact fun _ _ _ _ h => h
                  apply Exists.intro
                  apply And.intro
                  · apply yr_run; rfl; intro w' hw'; go_simp; (try with_reducible rfl)
                  simp only [Act.put, List.setIfInBounds_toArray, List.set_cons_zero, List.set_cons_succ]
                  apply wpR_next 11 (some 158)
                  · simp only [List.getElem?_toArray, List.getElem?_cons_succ, List.getElem?_cons_zero]; exact rfl
                  · rfl
                  · kernel_rfl
                  · kernel_rfl
                  · kernel_rfl
                  · exact fun _ _ _ _ h => h
                  apply Exists.intro
                  apply And.intro
                  · apply yr_run; rfl; intro w' hw'; go_simp; (try with_reducible rfl)
                  simp only [Act.put, List.setIfInBounds_toArray, List.set_cons_zero, List.set_cons_succ]
                  apply wpR_next 12 (some 159)
                  · simp only [List.getElem?_toArray, List.getElem?_cons_succ, List.getElem?_cons_zero]; exact rfl
                  · rfl
                  · kernel_rfl
                  · kernel_rfl
                  · kernel_rfl
                  · exact fun _ _ _ _ h => h
                  apply Exists.intro
                  apply And.intro
                  · apply yr_run; rfl; intro w' hw'; go_simp; (try with_reducible rfl)
                  simp only [Act.put, List.setIfInBounds_toArray, List.set_cons_zero, List.set_cons_succ]
                  apply wpR_next 13 (some 160)
                  · simp only [List.getElem?_toArray, List.getElem?_cons_succ, List.getElem?_cons_zero]; exact rfl
                  · rfl
                  · kernel_rfl
                  · kernel_rfl
                  · kernel_rfl
                  · exact fun _ _ _ _ h => h
                  apply Exists.intro
                  apply And.intro
                  · apply yr_run; rfl; intro w' hw'; go_simp; (try with_reducible rfl)
                  simp only [Act.put, List.setIfInBounds_toArray, List.set_cons_zero, List.set_cons_succ]
                  apply wpR_next 14 (some 161)
                  · simp only [List.getElem?_toArray, List.getElem?_cons_succ, List.getElem?_cons_zero]; exact rfl
                  · rfl
                  · kernel_rfl
                  · kernel_rfl
                  · kernel_rfl
                  · exact fun _ _ _ _ h => h
                  apply Exists.intro
                  apply And.intro
                  · apply yr_run; rfl; intro w' hw'; go_simp; (try with_reducible rfl)
                  simp only [Act.put, List.setIfInBounds_toArray, List.set_cons_zero, List.set_cons_succ]
                  apply wpR_next 15 (some 162)
                  · simp only [List.getElem?_toArray, List.getElem?_cons_succ, List.getElem?_cons_zero]; exact rfl
                  · rfl
                  · kernel_rfl
                  · kernel_rfl
                  · kernel_rfl
                  · exact fun _ _ _ _ h => h
                  apply Exists.intro
                  apply And.intro
                  · exact yr_run (by rfl) (fun w' h => exec_convert 32 9 (.tmp 161) rfl rfl (HT1.out w' h))
                  simp only [Act.put, List.setIfInBounds_toArray, List.set_cons_zero, List.set_cons_succ]
                  apply wpR_next 16 (some 163)
                  · simp only [List.getElem?_toArray, List.getElem?_cons_succ, List.getElem?_cons_zero]; exact rfl
                  · rfl
                  · kernel_rfl
                  · kernel_rfl
                  · kernel_rfl
                  · exact fun _ _ _ _ h => h
                  apply Exists.intro
                  apply And.intro
                  · apply yr_run; rfl; intro w' hw'; go_simp; (try with_reducible rfl)
                  simp only [Act.put, List.setIfInBounds_toArray, List.set_cons_zero, List.set_cons_succ]
                  apply wpR_next 17 (some 164)
                  · simp only [List.getElem?_toArray, List.getElem?_cons_succ, List.getElem?_cons_zero]; exact rfl
                  · rfl
                  · kernel_rfl
                  · kernel_rfl
                  · kernel_rfl
                  · exact fun _ _ _ _ h => h
                  apply Exists.intro
                  apply And.intro
                  · apply yr_run; rfl; intro w' hw'; go_simp; (try with_reducible rfl)
                  simp only [Act.put, List.setIfInBounds_toArray, List.set_cons_zero, List.set_cons_succ]
                  apply wpR_next 18 (some 165)
                  · simp only [List.getElem?_toArray, List.getElem?_cons_succ, List.getElem?_cons_zero]; exact rfl
                  · rfl
                  · kernel_rfl
                  · kernel_rfl
                  · kernel_rfl
                  · exact fun _ _ _ _ h => h
                  apply Exists.intro
                  apply And.intro
                  · apply yr_run; rfl; intro w' hw'; go_simp; (try with_reducible rfl)
                  simp only [Act.put, List.setIfInBounds_toArray, List.set_cons_zero, List.set_cons_succ]
                  apply wpR_next 19 (some 166)
                  · simp only [List.getElem?_toArray, List.getElem?_cons_succ, List.getElem?_cons_zero]; exact rfl
                  · rfl
                  · kernel_rfl
                  · kernel_rfl
                  · kernel_rfl
                  · exact fun _ _ _ _ h => h
                  apply Exists.intro
                  apply And.intro
                  · apply yr_run; rfl; intro w' hw'; go_simp; (try with_reducible rfl)
                  simp only [Act.put, List.setIfInBounds_toArray, List.set_cons_zero, List.set_cons_succ]
                  apply wpR_next 20 (some 167)
                  · simp only [List.getElem?_toArray, List.getElem?_cons_succ, List.getElem?_cons_zero]; exact rfl
                  · rfl
                  · kernel_rfl
                  · kernel_rfl
                  · kernel_rfl
                  · exact fun _ _ _ _ h => h
                  apply Exists.intro
                  apply And.intro
                  · apply yr_run; rfl; intro w' hw'; go_simp; (try with_reducible rfl)
                  simp only [Act.put, List.setIfInBounds_toArray, List.set_cons_zero, List.set_cons_succ]
                  apply wpR_next 21 (some 168)
                  · simp only [List.getElem?_toArray, List.getElem?_cons_succ, List.getElem?_cons_zero]; exact rfl
                  · rfl
                  · kernel_rfl
                  · kernel_rfl
                  · kernel_rfl
                  · exact fun _ _ _ _ h => h
                  apply Exists.intro
                  apply And.intro
                  · apply yr_run; rfl; intro w' hw'; go_simp; (try with_reducible rfl)
                  simp only [Act.put, List.setIfInBounds_toArray, List.set_cons_zero, List.set_cons_succ]
                  apply wpR_next 22 (some 169)
                  · simp only [List.getElem?_toArray, List.getElem?_cons_succ, List.getElem?_cons_zero]; exact rfl
                  · rfl
                  · kernel_rfl
                  · kernel_rfl
                  · kernel_rfl
                  · exact fun _ _ _ _ h => h
                  apply Exists.intro
                  apply And.intro
                  · apply yr_run; rfl; intro w' hw'; go_simp; (try with_reducible rfl)
                  simp only [Act.put, List.setIfInBounds_toArray, List.set_cons_zero, List.set_cons_succ]
                  apply wpR_next 23 (some 170)
                  · simp only [List.getElem?_toArray, List.getElem?_cons_succ, List.getElem?_cons_zero]; exact rfl
                  · rfl
                  · kernel_rfl
                  · kernel_rfl
                  · kernel_rfl
                  · exact fun _ _ _ _ h => h
                  apply Exists.intro
                  apply And.intro
                  · apply yr_run; rfl; intro w' hw'; go_simp; (try with_reducible rfl)
                  simp only [Act.put, List.setIfInBounds_toArray, List.set_cons_zero, List.set_cons_succ]
                  apply wpR_next 24 (some 171)
                  · simp only [List.getElem?_toArray, List.getElem?_cons_succ, List.getElem?_cons_zero]; exact rfl
                  · rfl
                  · kernel_rfl
                  · kernel_rfl
                  · kernel_rfl
                  · exact fun _ _ _ _ h => h
                  apply Exists.intro
                  apply And.intro
                  · exact yr_run (by rfl) (fun w' h => exec_convert 32 9 (.tmp 170) rfl rfl (HT2.out w' h))
                  simp only [Act.put, List.setIfInBounds_toArray, List.set_cons_zero, List.set_cons_succ]
                  apply wpR_next 25 (some 172)
                  · simp only [List.getElem?_toArray, List.getElem?_cons_succ, List.getElem?_cons_zero]; exact rfl
                  · rfl
                  · kernel_rfl
                  · kernel_rfl
                  · kernel_rfl
                  · exact fun _ _ _ _ h => h
                  apply Exists.intro
                  apply And.intro
                  · apply yr_run; rfl; intro w' hw'; go_simp; (try with_reducible rfl)
                  simp only [Act.put, List.setIfInBounds_toArray, List.set_cons_zero, List.set_cons_succ]
                  apply wpR_next 26 (some 173)
                  · simp only [List.getElem?_toArray, List.getElem?_cons_succ, List.getElem?_cons_zero]; exact rfl
                  · rfl
                  · kernel_rfl
                  · kernel_rfl
                  · kernel_rfl
                  · exact fun _ _ _ _ h => h
                  apply Exists.intro
                  apply And.intro
                  · apply yr_run; rfl; intro w' hw'; go_simp; (try with_reducible rfl)
                  simp only [Act.put, List.setIfInBounds_toArray, List.set_cons_zero, List.set_cons_succ]
                  refine wpR_done (by kernel_rfl) ?_ _
                  intro Wz hwz
                  have HIz := Lib.hid (And.intro (HI9.out.1.down (Ext.trans ((Below.refl _ _).drew) hwz)) (HI9.out.2.below (Ext.trans ((Below.refl _ _).drew) hwz)))
                  clear hwz ldd ldp s1 s2 s3 HT1 HT2
                  go_wp2
                  go_roundw
                  case rel => exact ⟨j + 1, by omega, by go_num, HIz⟩
                  case measure => simp [intOf]; omega
                · obtain rfl : j = D := by omega
                  go_wp2
                  go_roundw
                  case rel => exact ⟨k + 1, ack1, by omega, by go_num, rfl, Lib.hid ⟨_, _, _, _, _, _, HI.out.1⟩⟩
                  case measure => simp [intOf]; omega
    · have HAh := Lib.hid (ack_hi wr HK.out.sd (by omega) (by rw [List.length_drop]; omega) ((PL.length : Int) + 1) (by rw [List.length_drop]; omega))
      have Hlt := Lib.hid hlt
      clear hlt
      by_cases h4 : k < n
      · have t1 : decide (k < n) = true := decide_eq_true h4
        have t2 : ¬ ((k : Int) < 60) := by have := Hlt.out; omega
        go_wp2_with (first | (go_at_call 12; refine HAh.out.mono ?_; rintro e w9 ⟨rfl, hb9⟩; have HB9 := Lib.hid (bel_bl HK.out.below hb9); clear hb9))
        go_ret
        exact ⟨rfl, HB9.out⟩
      · have t1 : decide (k < n) = false := decide_eq_false h4
        go_wp2_with (first | (go_at_call 12; refine HAh.out.mono ?_; rintro e w9 ⟨rfl, hb9⟩; have HB9 := Lib.hid (bel_bl HK.out.below hb9); clear hb9))
        go_ret
        exact ⟨rfl, HB9.out⟩
end Go.Proofs.Ythhkimjafgghiaa
