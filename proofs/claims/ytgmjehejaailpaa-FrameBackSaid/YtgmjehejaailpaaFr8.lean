/- The contract of the document's own Put. -/
import Derived.Test.YtgmjehejaailpaaFr7
import Derived.Test.YtgmjehejaailpaaTree
namespace Go.Proofs.Ytgmjehejaailpaa
open Go.RowKit
set_option linter.unusedSimpArgs false
set_option linter.unusedVariables false

theorem rput_not (f : FrT) (A : Option Addr) (n c : Nat) (w : World) (h : mayF f n ≠ 0) :
    Calls Try.prog 12 #[.agg (frCells f A n c).toArray] w fun e w' => e = .returned (.tuple #[.slice none 0 0, .int .i64 (mayF f n)]) ∧ Below w.heap.size w w' := by
  have HM := Lib.hid (rfmay_any f A n c)
  obtain ⟨x, gx⟩ : ∃ x, mayF f n = x := ⟨_, rfl⟩
  rw [gx] at HM h ⊢
  have q : (x == 0) = false := beq_eq_false_iff_ne.2 h
  have q' : (x != 0) = true := bne_iff_ne.2 h
  clear gx h
  unfold frCells at HM ⊢
  go_enter Try.func12, Try.ntmps12
  go_wp2_with fail
  refine (HM.out _).mono ?_
  rintro e w2 ⟨rfl, hb⟩
  go_wp2
  exact bodyPost_ret (v := .tuple #[.slice none 0 0, .int .i64 x]) (by simp [results, Try.results12, go_sem]) rfl ⟨rfl, (below1 _ _).trans (hb.mono (by simp))⟩

set_option maxRecDepth 100000 in
set_option maxHeartbeats 4000000 in
theorem rput_yes (f : FrT) (A : Option Addr) (n c : Nat) (L : List Nat) (w : World) (h : mayF f n = 0) (hr : RdS w w.heap.size 1 A n c (rowsV f8 L)) (hb : ∀ b ∈ L, b < 256) :
    Calls Try.prog 12 #[.agg (frCells f A n c).toArray] w (GivesP w f L) := by
  have hl := hr.rlen f8_len (by decide)
  obtain rfl := hl
  obtain ⟨i0, hi, hz0, hz1, hz2⟩ := info_parts_ info_u8
  have hM := rfmay_any f A L.length c
  rw [h] at hM
  have HM := Lib.hid hM
  have HLt := Lib.hid (headF_lt h)
  have HBy := Lib.hid hb
  have HR := Lib.hid hr
  obtain ⟨⟨bk1, bk2⟩, ⟨bf1, bf2⟩, ⟨bt1, bt2⟩, ⟨be1, be2⟩, ⟨bs1, bs2⟩, ⟨ba1, ba2⟩, bn⟩ := may_bounds h
  clear hM h hb hr
  have HO : RowKit.Hid (Whole (w.alloc (.cells (frCells f A L.length c).toArray 24)) w.heap.size 24 (frCells f A L.length c)) := Lib.hid (Whole.new_ _ _ _)
  unfold frCells at HM ⊢
  go_enter Try.func12, Try.ntmps12
  go_wp2_with fail
  refine (HM.out _).mono ?_
  rintro e W2 ⟨rfl, hb2⟩
  have HO2 := Lib.hid (HO.out.below hb2)
  have HB2 : RowKit.Hid (Below w.heap.size w W2) := Lib.hid ((below1 _ _).trans (hb2.mono (by simp)))
  have HR2 := Lib.hid (HR.out.up HB2.out HB2.out.size)
  have HG0 : RowKit.Hid (w.heap.size < W2.heap.size) := Lib.hid (by have := hb2.size; simp at this; omega)
  clear hb2 HO
  have c0 := HO2.out.cell (i := 0) (v := .int .i64 f.k) rfl
  have c1 := HO2.out.cell (i := 1) (v := .int .i64 f.fr) rfl
  have c2 := HO2.out.cell (i := 2) (v := .int .i64 f.tt) rfl
  have uk : IntKind.u8.wrap f.k = f.k := by rw [IntKind.wrap_u8]; omega
  have uf : IntKind.u8.wrap f.fr = f.fr := by rw [IntKind.wrap_u8]; omega
  have ut : IntKind.u8.wrap f.tt = f.tt := by rw [IntKind.wrap_u8]; omega
  go_upto_region 5 with fail
  clear uk uf ut c0 c1 c2
  have HP0 : RowKit.Hid (Ow W2 W2.heap.size 5 1 (.slice (some ⟨W2.heap.size, 0, none⟩) 3 3) 3 (rowsV f8 [f.k.toNat, f.fr.toNat, f.tt.toNat]) (W2.alloc (.cells #[.int .u8 f.k, .int .u8 f.fr, .int .u8 f.tt] 5))) := Lib.hid (by
    have e1 : ((f.k.toNat : Nat) : Int) = f.k := by omega
    have e2 : ((f.fr.toNat : Nat) : Int) = f.fr := by omega
    have e3 : ((f.tt.toNat : Nat) : Int) = f.tt := by omega
    have := Ow.new_ (w := W2) (B := W2.heap.size) (W := W2) (e := 5) (size := 1) (n := 3) (cs := #[.int .u8 f.k, .int .u8 f.fr, .int .u8 f.tt]) (Below.refl _ _) (Nat.le_refl _) (Nat.le_refl _) (by decide) rfl
    simpa [rowsV, f8, e1, e2, e3] using this)
  obtain ⟨W3, gW3⟩ : ∃ x, W2.alloc (.cells #[.int .u8 f.k, .int .u8 f.fr, .int .u8 f.tt] 5) = x := ⟨_, rfl⟩
  obtain ⟨g0, gg0⟩ : ∃ x, w.heap.size = x := ⟨_, rfl⟩
  obtain ⟨B0, hB0⟩ : ∃ x, W2.heap.size = x := ⟨_, rfl⟩
  rw [gW3] at HP0 ⊢
  rw [gg0] at HO2 ⊢
  rw [hB0] at HP0 ⊢
  have HB0 := Lib.hid hB0
  have HG1 : RowKit.Hid (g0 < B0) := Lib.hid (by have := HG0.out; omega)
  have EX3 : RowKit.Hid (Ext W2 W3) := Lib.hid HP0.out.below
  have R9 := Lib.hid (HP0.out.up ((Below.refl _ _).drew))
  have EX9 : RowKit.Hid (Ext W2 W3.drew) := Lib.hid (EX3.out.trans ((Below.refl _ _).drew))
  clear gW3 gg0 hB0 HP0
  have lC3 : ∀ w', Kept (From_ B0) W3.drew w' → w'.cell? ⟨g0, 3, none⟩ = some (.int .i64 f.ep) := fun w' h => h.from_cell HG1.out (EX9.out.cell (HO2.out.cell (i := 3) rfl))
  have lC4 : ∀ w', Kept (From_ B0) W3.drew w' → w'.cell? ⟨g0, 4, none⟩ = some (.int .i64 f.sq) := fun w' h => h.from_cell HG1.out (EX9.out.cell (HO2.out.cell (i := 4) rfl))
  have lC5 : ∀ w', Kept (From_ B0) W3.drew w' → w'.cell? ⟨g0, 5, none⟩ = some (.int .i64 f.ac) := fun w' h => h.from_cell HG1.out (EX9.out.cell (HO2.out.cell (i := 5) rfl))
  refine wp_region_reg (From_ B0) (by kernel_rfl) ?_
  apply wpR_next 0 (some 22)
  · simp only [List.getElem?_toArray, List.getElem?_cons_succ, List.getElem?_cons_zero]; exact rfl
  · rfl
  · kernel_rfl
  · kernel_rfl
  · kernel_rfl
  · first | exact fun _ _ _ _ h => Exit.noConfusion h.1 | exact fun _ _ _ _ h => h
  apply Exists.intro
  apply And.intro
  · apply yr_run; rfl; intro w' hw'; go_simp; (try with_reducible rfl)
  simp only [Act.put, List.setIfInBounds_toArray, List.set_cons_zero, List.set_cons_succ]
  apply wpR_next 1 (some 23)
  · simp only [List.getElem?_toArray, List.getElem?_cons_succ, List.getElem?_cons_zero]; exact rfl
  · rfl
  · kernel_rfl
  · kernel_rfl
  · kernel_rfl
  · first | exact fun _ _ _ _ h => Exit.noConfusion h.1 | exact fun _ _ _ _ h => h
  apply Exists.intro
  apply And.intro
  · apply yr_run; rfl; intro w' hw'; go_simp; (try with_reducible rfl)
  simp only [Act.put, List.setIfInBounds_toArray, List.set_cons_zero, List.set_cons_succ]
  apply wpR_next 2 (some 24)
  · simp only [List.getElem?_toArray, List.getElem?_cons_succ, List.getElem?_cons_zero]; exact rfl
  · rfl
  · kernel_rfl
  · kernel_rfl
  · kernel_rfl
  · first | exact fun _ _ _ _ h => Exit.noConfusion h.1 | exact fun _ _ _ _ h => h
  apply Exists.intro
  apply And.intro
  · apply yr_run; rfl; intro w' hw'; go_simp; (try with_reducible rfl)
  simp only [Act.put, List.setIfInBounds_toArray, List.set_cons_zero, List.set_cons_succ]
  apply wpR_next 4 (some 26)
  · simp only [List.getElem?_toArray, List.getElem?_cons_succ, List.getElem?_cons_zero]; exact rfl
  · rfl
  · kernel_rfl
  · kernel_rfl
  · kernel_rfl
  · first | exact fun _ _ _ _ h => Exit.noConfusion h.1 | exact fun _ _ _ _ h => h
  apply Exists.intro
  apply And.intro
  · apply yr_run; rfl; intro w' hw'; go_simp; (try with_reducible rfl)
  simp only [Act.put, List.setIfInBounds_toArray, List.set_cons_zero, List.set_cons_succ]
  apply wpR_next 5 (some 27)
  · simp only [List.getElem?_toArray, List.getElem?_cons_succ, List.getElem?_cons_zero]; exact rfl
  · rfl
  · kernel_rfl
  · kernel_rfl
  · kernel_rfl
  · first | exact fun _ _ _ _ h => Exit.noConfusion h.1 | exact fun _ _ _ _ h => h
  apply Exists.intro
  apply And.intro
  · apply yr_run; rfl; intro w' hw'; go_simp; (try with_reducible rfl)
  simp only [Act.put, List.setIfInBounds_toArray, List.set_cons_zero, List.set_cons_succ]
  apply wpR_next 7 (some 29)
  · simp only [List.getElem?_toArray, List.getElem?_cons_succ, List.getElem?_cons_zero]; exact rfl
  · rfl
  · kernel_rfl
  · kernel_rfl
  · kernel_rfl
  · first | exact fun _ _ _ _ h => Exit.noConfusion h.1 | exact fun _ _ _ _ h => h
  apply Exists.intro
  apply And.intro
  · apply yr_run; rfl; intro w' hw'; go_simp; (try with_reducible rfl)
  simp only [Act.put, List.setIfInBounds_toArray, List.set_cons_zero, List.set_cons_succ]
  apply wpR_next 8 (some 30)
  · simp only [List.getElem?_toArray, List.getElem?_cons_succ, List.getElem?_cons_zero]; exact rfl
  · rfl
  · kernel_rfl
  · kernel_rfl
  · kernel_rfl
  · first | exact fun _ _ _ _ h => Exit.noConfusion h.1 | exact fun _ _ _ _ h => h
  apply Exists.intro
  apply And.intro
  · apply yr_run; rfl; intro w' hw'; go_simp; (try with_reducible rfl)
  simp only [Act.put, List.setIfInBounds_toArray, List.set_cons_zero, List.set_cons_succ]
  refine wpR_one 3 (by kernel_rfl) ?_
  apply at_call 3 (some 25)
  · simp only [List.getElem?_toArray, List.getElem?_cons_succ, List.getElem?_cons_zero]; exact rfl
  · rfl
  · rfl
  · intro w'; go_simp; first | done | exact ⟨rfl, rfl⟩ | with_reducible rfl
  intro w' hw'
  have RR_0_2 := Lib.hid (Ow.up R9.out (hw'))
  have E_0_2 := Lib.hid (Ext.trans EX9.out (hw'))
  refine (four_any _ _ _ _ [f.k.toNat, f.fr.toNat, f.tt.toNat] f.ep _ RR_0_2.out (by omega) be1 be2).mono ?_
  rintro e w'' ⟨vv, rfl, ho, hb⟩
  refine ⟨_, rfl, Kept.of_from hb, ?_⟩
  have E_0_1 : RowKit.Hid (Ext W2 w'') := Lib.hid ho.below
  have hkk : Kept (From_ B0) W3.drew w'' := (Kept.of_ext hw').trans (Kept.of_from hb)
  obtain ⟨AA0_1, cc0_1, rfl, -⟩ := ho.rds
  have RR_0_1 := Lib.hid ho
  obtain ⟨z0_1, gz0_1⟩ : ∃ x, w'' = x := ⟨_, rfl⟩
  rw [gz0_1] at RR_0_1 E_0_1 hkk ⊢
  have ldt0_3 := fun w'' (h : Kept (From_ B0) z0_1 w'') => lC3 w'' (hkk.trans h)
  have ldt0_4 := fun w'' (h : Kept (From_ B0) z0_1 w'') => lC4 w'' (hkk.trans h)
  have ldt0_5 := fun w'' (h : Kept (From_ B0) z0_1 w'') => lC5 w'' (hkk.trans h)
  clear lC3 lC4 lC5
  clear hkk ho hb gz0_1 hw'
  try simp only [Act.put, List.setIfInBounds_toArray, List.set_cons_zero, List.set_cons_succ]
  refine wpR_one 6 (by kernel_rfl) ?_
  apply at_call 6 (some 28)
  · simp only [List.getElem?_toArray, List.getElem?_cons_succ, List.getElem?_cons_zero]; exact rfl
  · rfl
  · rfl
  · intro w'; go_simp; first | done | exact ⟨rfl, rfl⟩ | with_reducible rfl
  intro w' hw'
  have RR_0_7 := Lib.hid (Ow.up RR_0_1.out (hw'))
  have E_0_7 := Lib.hid (Ext.trans E_0_1.out (hw'))
  refine (four_any _ _ _ _ ([f.k.toNat, f.fr.toNat, f.tt.toNat] ++ be4 f.ep) f.sq _ RR_0_7.out (by omega) bs1 bs2).mono ?_
  rintro e w'' ⟨vv, rfl, ho, hb⟩
  refine ⟨_, rfl, Kept.of_from hb, ?_⟩
  have E_0_6 : RowKit.Hid (Ext W2 w'') := Lib.hid ho.below
  have hkk : Kept (From_ B0) z0_1 w'' := (Kept.of_ext hw').trans (Kept.of_from hb)
  obtain ⟨AA0_6, cc0_6, rfl, -⟩ := ho.rds
  have RR_0_6 := Lib.hid ho
  obtain ⟨z0_6, gz0_6⟩ : ∃ x, w'' = x := ⟨_, rfl⟩
  rw [gz0_6] at RR_0_6 E_0_6 hkk ⊢
  have ldt0_8 := fun w'' (h : Kept (From_ B0) z0_6 w'') => ldt0_3 w'' (hkk.trans h)
  have ldt0_9 := fun w'' (h : Kept (From_ B0) z0_6 w'') => ldt0_4 w'' (hkk.trans h)
  have ldt0_10 := fun w'' (h : Kept (From_ B0) z0_6 w'') => ldt0_5 w'' (hkk.trans h)
  clear ldt0_3 ldt0_4 ldt0_5
  clear hkk ho hb gz0_6 hw'
  try simp only [Act.put, List.setIfInBounds_toArray, List.set_cons_zero, List.set_cons_succ]
  refine wpR_one 9 (by kernel_rfl) ?_
  apply at_call 9 (some 31)
  · simp only [List.getElem?_toArray, List.getElem?_cons_succ, List.getElem?_cons_zero]; exact rfl
  · rfl
  · rfl
  · intro w'; go_simp; first | done | exact ⟨rfl, rfl⟩ | with_reducible rfl
  intro w' hw'
  have RR_0_12 := Lib.hid (Ow.up RR_0_6.out (hw'))
  have E_0_12 := Lib.hid (Ext.trans E_0_6.out (hw'))
  refine (four_any _ _ _ _ ([f.k.toNat, f.fr.toNat, f.tt.toNat] ++ be4 f.ep ++ be4 f.sq) f.ac _ RR_0_12.out (by omega) ba1 ba2).mono ?_
  rintro e w'' ⟨vv, rfl, ho, hb⟩
  refine ⟨_, rfl, Kept.of_from hb, ?_⟩
  have E_0_11 : RowKit.Hid (Ext W2 w'') := Lib.hid ho.below
  have hkk : Kept (From_ B0) z0_6 w'' := (Kept.of_ext hw').trans (Kept.of_from hb)
  obtain ⟨AA0_11, cc0_11, rfl, -⟩ := ho.rds
  have RR_0_11 := Lib.hid ho
  obtain ⟨z0_11, gz0_11⟩ : ∃ x, w'' = x := ⟨_, rfl⟩
  rw [gz0_11] at RR_0_11 E_0_11 hkk ⊢
  have ldt0_13 := fun w'' (h : Kept (From_ B0) z0_11 w'') => ldt0_8 w'' (hkk.trans h)
  have ldt0_14 := fun w'' (h : Kept (From_ B0) z0_11 w'') => ldt0_9 w'' (hkk.trans h)
  have ldt0_15 := fun w'' (h : Kept (From_ B0) z0_11 w'') => ldt0_10 w'' (hkk.trans h)
  clear ldt0_8 ldt0_9 ldt0_10
  clear hkk ho hb gz0_11 hw'
  try simp only [Act.put, List.setIfInBounds_toArray, List.set_cons_zero, List.set_cons_succ]
  apply wpR_next 10 (some 5)
  · simp only [List.getElem?_toArray, List.getElem?_cons_succ, List.getElem?_cons_zero]; exact rfl
  · rfl
  · kernel_rfl
  · kernel_rfl
  · kernel_rfl
  · first | exact fun _ _ _ _ h => Exit.noConfusion h.1 | exact fun _ _ _ _ h => h
  apply Exists.intro
  apply And.intro
  · apply yr_run; rfl; intro w' hw'; go_simp; (try with_reducible rfl)
  simp only [Act.put, List.setIfInBounds_toArray, List.set_cons_zero, List.set_cons_succ]
  refine wpR_done (by kernel_rfl) ?_ _
  intro wE hwE
  skip
  have HPo : RowKit.Hid (Ow W2 B0 5 1 _ 15 (rowsV f8 (headF f)) wE) := Lib.hid (Ow.up RR_0_11.out hwE)
  have EXE : RowKit.Hid (Ext W2 wE) := Lib.hid HPo.out.below
  clear hwE
  have d6 := EXE.out.cell (HO2.out.cell (i := 6) (v := .slice A L.length c) rfl)
  have HS := Lib.hid (fun A1 c1 W hr => rsum_any A1 (15 + L.length) c1 (headF f ++ L) W hr (by intro b hb; rcases List.mem_append.1 hb with hb | hb; exact HLt.out b hb; exact HBy.out b hb) (by unfold maxLen; omega))
  have hs : crc (headF f ++ L) < 4294967296 := crc_lt (by intro b hb; rcases List.mem_append.1 hb with hb | hb; exact HLt.out b hb; exact HBy.out b hb)
  have hlen : (putF f L).length = 15 + L.length + 4 := by simp [putF, headF_len, le4]; omega
  have HPF : RowKit.Hid (putF f L = headF f ++ L ++ le4 (crc (headF f ++ L))) := Lib.hid rfl
  obtain ⟨x, gx⟩ : ∃ x, crc (headF f ++ L) = x := ⟨_, rfl⟩
  rw [gx] at HS hs HPF
  have HLen := Lib.hid hlen
  clear gx hlen
  have v1 : IntKind.u8.wrap (x : Int) = (x : Int) % 256 := by rw [IntKind.wrap_u8]
  have v2 : IntKind.u8.wrap ((x : Int) / 256) = (x : Int) / 256 % 256 := by rw [IntKind.wrap_u8]
  have v3 : IntKind.u8.wrap ((x : Int) / 65536) = (x : Int) / 65536 % 256 := by rw [IntKind.wrap_u8]
  have v4 : IntKind.u8.wrap ((x : Int) / 16777216) = (x : Int) / 16777216 % 256 := by rw [IntKind.wrap_u8]
  go_wp2_with (first
    | (at_builtin
       refine wpList_push2 rfl (.tmp 32) (.tmp 34) _ rfl _ 5 i0 _ 1 1 Try.underlying22 hi hz0 hz1 hz2 rfl (by decide) _ _ _ rfl (by exact Ow.up HPo.out (Below.refl _ _)) _ A L.length c (rowsV f8 L) rfl (HR2.out.up HPo.out.below HPo.out.below.size) (f8_all L) (by unfold maxLen; omega) (by omega) ?_
       intro v1 W5 how1 hb1 hgr1
       rw [← rowsV_app] at how1
       obtain ⟨A5, c5, rfl, hr5⟩ := how1.rds
       have HP5 := Lib.hid how1
       have HR5 := Lib.hid hr5
       clear how1 hb1 hgr1 hr5 d6)
    | (go_at_call 16
       refine (HS.out _ _ _ HR5.out).mono ?_
       rintro e W6 ⟨rfl, rfl⟩)
    | (at_builtin
       refine wpList_push2 rfl (.tmp 38) (.tmp 50) _ rfl _ 5 i0 _ 1 1 Try.underlying22 hi hz0 hz1 hz2 rfl (by decide) _ _ _ rfl (by exact Ow.up HP5.out (below1 _ _)) _ (some ⟨W5.heap.size, 0, none⟩) 4 4 ([.int .u8 ((x : Int) % 256), .int .u8 ((x : Int) / 256 % 256), .int .u8 ((x : Int) / 65536 % 256), .int .u8 ((x : Int) / 16777216 % 256)]) rfl (by exact RdS.new_ rfl (Nat.lt_succ_self _) rfl rfl) (by simp [Value.oneCell']) (by unfold maxLen; omega) (by omega) ?_
       intro v7 W7 how7 hb7 hgr7
       obtain ⟨A7, c7, rfl, hr7⟩ := how7.rds
       have HP7 := Lib.hid how7
       have HR7 := Lib.hid hr7
       clear how7 hb7 hgr7 hr7))
  have hrow : rowsV f8 (headF f ++ L) ++ [.int .u8 ((x : Int) % 256), .int .u8 ((x : Int) / 256 % 256), .int .u8 ((x : Int) / 65536 % 256), .int .u8 ((x : Int) / 16777216 % 256)] = rowsV f8 (putF f L) := by
    rw [HPF.out, rowsV_app f8 (headF f ++ L)]
    simp [le4, rowsV, f8]
  have hx7 := HR7.out
  rw [hrow] at hx7
  refine bodyPost_ret (v := .tuple #[.slice A7 (15 + L.length + 4) c7, .int .i64 0]) (by simp [results, Try.results12, go_sem]) rfl ?_
  refine ⟨A7, c7, by rw [HLen.out], by rw [HLen.out]; exact hx7, fun a ha => ?_, HB2.out.trans (HP7.out.below.mono HB2.out.size)⟩
  subst ha
  have h1 := (HP7.out.own.lt a.block rfl).1
  have h2 := HG0.out
  have h3 := HB0.out
  omega
end Go.Proofs.Ytgmjehejaailpaa
