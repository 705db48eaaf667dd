/- The law FramePuts. -/
import Derived.Test.YtgmjehejaailpaaFr9
import Derived.Test.YtgmjehejaailpaaFr5
import Derived.Test.YtgmjehejaailpaaReg3
import Derived.Deep.WholeRow
namespace Go.Proofs.Ytgmjehejaailpaa
open Go.RowKit
set_option linter.unusedSimpArgs false
set_option linter.unusedVariables false

/-- What a frame's Put gives. -/
def putR (f : FrT) (L : List Nat) : List Nat := if mayF f L.length = 0 then putF f L else []
def PutsTo (k : FuncId) : Prop := ∀ (f : FrT) (A : Option Addr) (c : Nat) (L : List Nat) (w : World) (hr : RdS w w.heap.size 1 A L.length c (rowsV f8 L)) (hb : ∀ b ∈ L, b < 256),
  Calls Try.prog k #[.agg (frCells f A L.length c).toArray] w fun e w' => ∃ A' n' c', e = .returned (.tuple #[.slice A' n' c', .int .i64 (mayF f L.length)]) ∧ RdS w' w'.heap.size 1 A' n' c' (rowsV f8 (putR f L)) ∧ Below w.heap.size w w'
theorem rds_drew {w : World} {B size n c : Nat} {A : Option Addr} {xs : List Value} (h : RdS w B size A n c xs) : RdS w.drew B size A n c xs := h.keep fun _ _ => rfl
theorem rds_nil (w : World) (B size : Nat) : RdS w B size none 0 0 [] := ⟨by simp, fun _ => ⟨rfl, rfl⟩, Nat.le_refl _, fun a ha => (by cases ha), fun a ha => (by cases ha)⟩
theorem puts_to : PutsTo 11 := fun f A c L w hr hb => by
  by_cases h : mayF f L.length = 0
  · refine (put_yes f A L.length c L w h hr hb).mono ?_
    rintro e w' ⟨A', c', rfl, h2, _, h4⟩
    rw [h]
    exact ⟨A', _, c', rfl, by unfold putR; rw [if_pos h]; exact h2, h4⟩
  · refine (put_not f A L.length c w h).mono ?_
    rintro e w' ⟨rfl, h4⟩
    exact ⟨none, 0, 0, rfl, by unfold putR; rw [if_neg h]; exact rds_nil _ _ _, h4⟩
theorem rputs_to : PutsTo 12 := fun f A c L w hr hb => by
  by_cases h : mayF f L.length = 0
  · refine (rput_yes f A L.length c L w h hr hb).mono ?_
    rintro e w' ⟨A', c', rfl, h2, _, h4⟩
    rw [h]
    exact ⟨A', _, c', rfl, by unfold putR; rw [if_pos h]; exact h2, h4⟩
  · refine (rput_not f A L.length c w h).mono ?_
    rintro e w' ⟨rfl, h4⟩
    exact ⟨none, 0, 0, rfl, by unfold putR; rw [if_neg h]; exact rds_nil _ _ _, h4⟩

set_option maxRecDepth 100000 in
set_option maxHeartbeats 4000000 in
theorem law_puts (f : FrT) (A : Option Addr) (n c : Nat) (L : List Nat) (w : World) (h : RdS w w.heap.size 1 A n c (rowsV f8 L)) (hb : ∀ b ∈ L, b < 256) (hn : n ≤ maxLen) :
    Calls Try.prog 3 #[.agg (frCells f A n c).toArray] w fun e w' => e = .returned (.bool true) ∧ Below w.heap.size w w' := by
  have hl := h.rlen f8_len (by decide)
  obtain ⟨M, gM⟩ : ∃ x, L.take 16400 = x := ⟨_, rfl⟩
  have hF := few15 f A n c L
  have hRM := h.fewer8 16400
  rw [gM] at hF hRM
  have HbM : RowKit.Hid (∀ b ∈ M, b < 256) := Lib.hid (gM ▸ fun b h => hb b (List.mem_of_mem_take h))
  have HnM : RowKit.Hid (M.length ≤ maxLen) := Lib.hid (by rw [← gM, List.length_take]; unfold maxLen; omega)
  have HF : RowKit.Hid _ := Lib.hid (fun w' (h' : RdS w' w'.heap.size 1 A n c (rowsV f8 L)) => hF w' h' hn)
  have HR := Lib.hid hRM
  have HRL := Lib.hid h
  have HO : RowKit.Hid (Whole (w.alloc (.cells #[.int .i64 f.k, .int .i64 f.fr, .int .i64 f.tt, .int .i64 f.ep, .int .i64 f.sq, .int .i64 f.ac, .slice A n c] 24)) w.heap.size 24 (frCells f A n c)) := Lib.hid (Whole.new_ _ _ _)
  have HB : RowKit.Hid (Below w.heap.size w (w.alloc (.cells #[.int .i64 f.k, .int .i64 f.fr, .int .i64 f.tt, .int .i64 f.ep, .int .i64 f.sq, .int .i64 f.ac, .slice A n c] 24))) := Lib.hid (below1 _ _)
  obtain ⟨W1, gW1⟩ : ∃ x, w.alloc (.cells #[.int .i64 f.k, .int .i64 f.fr, .int .i64 f.tt, .int .i64 f.ep, .int .i64 f.sq, .int .i64 f.ac, .slice A n c] 24) = x := ⟨_, rfl⟩
  rw [gW1] at HO HB
  obtain ⟨g0, gg0⟩ : ∃ x, w.heap.size = x := ⟨_, rfl⟩
  rw [gg0] at HO
  have HG0 : RowKit.Hid (w.heap.size ≤ g0) := Lib.hid (Nat.le_of_eq gg0)
  clear hF hRM h gM hb hn hl
  unfold frCells at HF HO ⊢
  go_enter Try.func3, Try.ntmps3
  go_upto_region 1 with fail
  clear gW1 gg0
  go_wp2_with fail
  refine (shown15 _).mono ?_
  rintro e W2 ⟨rfl, hb2⟩
  have HO2 := Lib.hid (HO.out.below hb2)
  have HB2 : RowKit.Hid (Below w.heap.size w W2) := Lib.hid (HB.out.trans (hb2.mono HB.out.size))
  clear hb2 HO HB
  go_upto_region 2 with fail
  refine wp_region_lit ?_
  refine wpList_load_row rfl 24 (.tmp 1) rfl g0 rfl 24 #[.int .i64 f.k, .int .i64 f.fr, .int .i64 f.tt, .int .i64 f.ep, .int .i64 f.sq, .int .i64 f.ac, .slice A n c] (0, 0) _ HO2.out Try.underlying24 rfl (by kernel_rfl) ?_
  simp only [Act.put, List.setIfInBounds_toArray, List.set_cons_zero, List.set_cons_succ]
  have HC := Lib.hid (HF.out W2 (HRL.out.up HB2.out HB2.out.size))
  go_wp2_with fail
  refine HC.out.mono ?_
  rintro e W3 ⟨rfl, hb3⟩
  have HO3 := Lib.hid (HO2.out.below hb3)
  have HB3 : RowKit.Hid (Below w.heap.size w W3) := Lib.hid (HB2.out.trans (hb3.mono HB2.out.size))
  clear hb3 HO2 HB2 HC HF HRL
  rename_i hK
  refine hK _ _ ?_
  refine wpList_store_row rfl 24 (.tmp 1) (.tmp 10) rfl g0 #[.int .i64 f.k, .int .i64 f.fr, .int .i64 f.tt, .int .i64 f.ep, .int .i64 f.sq, .int .i64 f.ac, .slice A M.length c] rfl rfl 24 #[.int .i64 f.k, .int .i64 f.fr, .int .i64 f.tt, .int .i64 f.ep, .int .i64 f.sq, .int .i64 f.ac, .slice A n c] HO3.out (by kernel_rfl) rfl (by simp [Value.oneCell']) ?_
  have HO4 : RowKit.Hid (Whole (W3.setRow g0 #[.int .i64 f.k, .int .i64 f.fr, .int .i64 f.tt, .int .i64 f.ep, .int .i64 f.sq, .int .i64 f.ac, .slice A M.length c]) g0 24 (frCells f A M.length c)) := Lib.hid (setRow_heap W3 g0 _ _ _ _ HO3.out)
  have HB4 : RowKit.Hid (Below w.heap.size w (W3.setRow g0 #[.int .i64 f.k, .int .i64 f.fr, .int .i64 f.tt, .int .i64 f.ep, .int .i64 f.sq, .int .i64 f.ac, .slice A M.length c])) := Lib.hid ⟨HB3.out.os, HB3.out.tape, HB3.out.output, (by have := HB3.out.size; simpa [World.setRow] using this), fun i hi => (setRow_other W3 g0 i _ (by have := HG0.out; omega)).trans (HB3.out.block i hi)⟩
  obtain ⟨W4, gW4⟩ : ∃ x, W3.setRow g0 #[.int .i64 f.k, .int .i64 f.fr, .int .i64 f.tt, .int .i64 f.ep, .int .i64 f.sq, .int .i64 f.ac, .slice A M.length c] = x := ⟨_, rfl⟩
  rw [gW4] at HO4 HB4 ⊢
  clear gW4 HO3 HB3
  have HR4 := Lib.hid (HR.out.up HB4.out HB4.out.size)
  have HC := Lib.hid (puts_to f A c M W4 HR4.out HbM.out)
  have HO4' := HO4
  unfold frCells at HO4' HC
  go_upto_region 3 with fail
  refine wp_region_lit ?_
  refine wpList_load_row rfl 24 (.tmp 1) rfl g0 rfl 24 #[.int .i64 f.k, .int .i64 f.fr, .int .i64 f.tt, .int .i64 f.ep, .int .i64 f.sq, .int .i64 f.ac, .slice A M.length c] (0, 0) _ HO4'.out Try.underlying24 rfl (by kernel_rfl) ?_
  simp only [Act.put, List.setIfInBounds_toArray, List.set_cons_zero, List.set_cons_succ]
  go_wp2_with fail
  refine HC.out.mono ?_
  rintro e W5 ⟨Ap, np, cp, rfl, hp, hb5⟩
  have HO5 := Lib.hid (HO4.out.below hb5)
  have HB5 : RowKit.Hid (Below w.heap.size w W5) := Lib.hid (HB4.out.trans (hb5.mono HB4.out.size))
  have HP5 := Lib.hid hp
  clear hb5 HO4 HO4' HB4 HC HR4 hp
  have HR5 := Lib.hid (HR.out.up HB5.out HB5.out.size)
  have HC := Lib.hid (rputs_to f A c M W5 HR5.out HbM.out)
  have HO5' := HO5
  unfold frCells at HO5' HC
  go_upto_region 4 with fail
  refine wp_region_lit ?_
  refine wpList_load_row rfl 24 (.tmp 1) rfl g0 rfl 24 #[.int .i64 f.k, .int .i64 f.fr, .int .i64 f.tt, .int .i64 f.ep, .int .i64 f.sq, .int .i64 f.ac, .slice A M.length c] (0, 0) _ HO5'.out Try.underlying24 rfl (by kernel_rfl) ?_
  simp only [Act.put, List.setIfInBounds_toArray, List.set_cons_zero, List.set_cons_succ]
  go_wp2_with fail
  refine HC.out.mono ?_
  rintro e W6 ⟨Aq, nq, cq, rfl, hp, hb5⟩
  have HO6 := Lib.hid (HO5.out.below hb5)
  have HB6 : RowKit.Hid (Below w.heap.size w W6) := Lib.hid (HB5.out.trans (hb5.mono HB5.out.size))
  have HP6 := Lib.hid (HP5.out.up hb5 hb5.size)
  have HQ6 := Lib.hid hp
  clear hb5 HO5 HO5' HB5 HC HR5 hp HP5
  have HR6 := Lib.hid (HR.out.up HB6.out HB6.out.size)
  clear HR
  obtain ⟨P, gP⟩ : ∃ x, putR f M = x := ⟨_, rfl⟩
  rw [gP] at HP6 HQ6
  clear gP
  have HM1 := Lib.hid (fmay_any f A M.length c)
  have HM2 := Lib.hid (rfmay_any f A M.length c)
  unfold frCells at HM1 HM2 HO6
  obtain ⟨y, gy⟩ : ∃ x, mayF f M.length = x := ⟨_, rfl⟩
  rw [gy] at HM1 HM2
  clear gy
  obtain ⟨T, gT⟩ : ∃ x, txt P = x := ⟨_, rfl⟩
  obtain ⟨C, gC⟩ : ∃ x : Int, ((crc M : Nat) : Int) = x := ⟨_, rfl⟩
  obtain ⟨m, gm⟩ : ∃ x, M.length = x := ⟨_, rfl⟩
  rw [gm] at HM1 HM2 HR6 HO6 HnM ⊢
  go_upto_region 5 with fail
  have KB : ∀ {u v : World}, Kept Nil_ u v → Below u.heap.size u v := fun h => h.below (Nat.le_refl _) (fun _ _ h => h)
  have HOd := Lib.hid HO6.out.drew
  have HBd := Lib.hid HB6.out.drew
  have ld6 : ∀ w', Kept Nil_ W6.drew w' → w'.cell? ⟨g0, 6, none⟩ = some (.slice A m c) := fun w' h => h.nil_cell (HO6.out.drew.cell (i := 6) rfl)
  have HS1 : RowKit.Hid (∀ w', Kept Nil_ W6.drew w' → Calls Try.prog 15 #[.slice A m c] w' fun e w'' => e = .returned (.int .u32 C) ∧ Below w'.heap.size w' w'') := Lib.hid (fun w' h => gC ▸ sum_b A m c M w' ((rds_drew HR6.out).bl (KB h)) HbM.out HnM.out)
  have HS2 : RowKit.Hid (∀ w', Kept Nil_ W6.drew w' → Calls Try.prog 16 #[.slice A m c] w' fun e w'' => e = .returned (.int .u32 C) ∧ Below w'.heap.size w' w'') := Lib.hid (fun w' h => gC ▸ rsum_b A m c M w' ((rds_drew HR6.out).bl (KB h)) HbM.out HnM.out)
  refine wp_region_reg (Nil_) (by kernel_rfl) ?_
  apply wpR_next 0 (some 21)
  · simp only [List.getElem?_toArray, List.getElem?_cons_succ, List.getElem?_cons_zero]; exact rfl
  · rfl
  · kernel_rfl
  · kernel_rfl
  · kernel_rfl
  · exact fun _ _ _ _ h => h
  apply Exists.intro
  apply And.intro
  · apply yr_run; rfl; intro w' hw'; go_simp; (try with_reducible rfl)
  simp only [Act.put, List.setIfInBounds_toArray, List.set_cons_zero, List.set_cons_succ]
  apply wpR_next 1 (some 22)
  · simp only [List.getElem?_toArray, List.getElem?_cons_succ, List.getElem?_cons_zero]; exact rfl
  · rfl
  · kernel_rfl
  · kernel_rfl
  · kernel_rfl
  · exact fun _ _ _ _ h => h
  apply Exists.intro
  apply And.intro
  · apply yr_run; rfl; intro w' hw'; go_simp; (try with_reducible rfl)
  simp only [Act.put, List.setIfInBounds_toArray, List.set_cons_zero, List.set_cons_succ]
  apply wpR_next 2 (some 23)
  · simp only [List.getElem?_toArray, List.getElem?_cons_succ, List.getElem?_cons_zero]; exact rfl
  · rfl
  · kernel_rfl
  · kernel_rfl
  · kernel_rfl
  · exact fun _ _ _ _ h => h
  apply Exists.intro
  apply And.intro
  · exact yr_load (by rfl) 24 (.tmp 1) rfl g0 rfl 24 [.int .i64 f.k, .int .i64 f.fr, .int .i64 f.tt, .int .i64 f.ep, .int .i64 f.sq, .int .i64 f.ac, .slice A m c] _ (fun w' h => h.whole HOd.out (fun h => h)) Try.underlying24 rfl (by kernel_rfl)
  simp only [Act.put, List.setIfInBounds_toArray, List.set_cons_zero, List.set_cons_succ]
  apply wpR_next 3 (some 24)
  · simp only [List.getElem?_toArray, List.getElem?_cons_succ, List.getElem?_cons_zero]; exact rfl
  · rfl
  · kernel_rfl
  · kernel_rfl
  · kernel_rfl
  · exact fun _ _ _ _ h => h
  apply Exists.intro
  apply And.intro
  · apply yr_call; rfl; rotate_left; intro w' hw'; exact HM1.out w'; intro w'; go_simp
  simp only [Act.put, List.setIfInBounds_toArray, List.set_cons_zero, List.set_cons_succ]
  apply wpR_next 4 (some 25)
  · simp only [List.getElem?_toArray, List.getElem?_cons_succ, List.getElem?_cons_zero]; exact rfl
  · rfl
  · kernel_rfl
  · kernel_rfl
  · kernel_rfl
  · exact fun _ _ _ _ h => h
  apply Exists.intro
  apply And.intro
  · exact yr_load (by rfl) 24 (.tmp 1) rfl g0 rfl 24 [.int .i64 f.k, .int .i64 f.fr, .int .i64 f.tt, .int .i64 f.ep, .int .i64 f.sq, .int .i64 f.ac, .slice A m c] _ (fun w' h => h.whole HOd.out (fun h => h)) Try.underlying24 rfl (by kernel_rfl)
  simp only [Act.put, List.setIfInBounds_toArray, List.set_cons_zero, List.set_cons_succ]
  apply wpR_next 5 (some 26)
  · simp only [List.getElem?_toArray, List.getElem?_cons_succ, List.getElem?_cons_zero]; exact rfl
  · rfl
  · kernel_rfl
  · kernel_rfl
  · kernel_rfl
  · exact fun _ _ _ _ h => h
  apply Exists.intro
  apply And.intro
  · apply yr_call; rfl; rotate_left; intro w' hw'; exact HM2.out w'; intro w'; go_simp
  simp only [Act.put, List.setIfInBounds_toArray, List.set_cons_zero, List.set_cons_succ]
  apply wpR_next 6 (some 27)
  · simp only [List.getElem?_toArray, List.getElem?_cons_succ, List.getElem?_cons_zero]; exact rfl
  · rfl
  · kernel_rfl
  · kernel_rfl
  · kernel_rfl
  · exact fun _ _ _ _ h => h
  apply Exists.intro
  apply And.intro
  · apply yr_run; rfl; intro w' hw'; go_simp; (try with_reducible rfl)
  simp only [Act.put, List.setIfInBounds_toArray, List.set_cons_zero, List.set_cons_succ]
  apply wpR_next 7 (some 28)
  · simp only [List.getElem?_toArray, List.getElem?_cons_succ, List.getElem?_cons_zero]; exact rfl
  · rfl
  · kernel_rfl
  · kernel_rfl
  · kernel_rfl
  · exact fun _ _ _ _ h => h
  apply Exists.intro
  apply And.intro
  · apply yr_run; rfl; intro w' hw'; go_simp; (try with_reducible rfl)
  simp only [Act.put, List.setIfInBounds_toArray, List.set_cons_zero, List.set_cons_succ]
  apply wpR_next 8 (some 29)
  · simp only [List.getElem?_toArray, List.getElem?_cons_succ, List.getElem?_cons_zero]; exact rfl
  · rfl
  · kernel_rfl
  · kernel_rfl
  · kernel_rfl
  · exact fun _ _ _ _ h => h
  apply Exists.intro
  apply And.intro
  · apply yr_run; rfl; intro w' hw'; go_simp; (try with_reducible rfl)
  simp only [Act.put, List.setIfInBounds_toArray, List.set_cons_zero, List.set_cons_succ]
  apply wpR_next 9 (some 30)
  · simp only [List.getElem?_toArray, List.getElem?_cons_succ, List.getElem?_cons_zero]; exact rfl
  · rfl
  · kernel_rfl
  · kernel_rfl
  · kernel_rfl
  · exact fun _ _ _ _ h => h
  apply Exists.intro
  apply And.intro
  · apply yr_run; rfl; intro w' hw'; go_simp; (try with_reducible rfl)
  simp only [Act.put, List.setIfInBounds_toArray, List.set_cons_zero, List.set_cons_succ]
  apply wpR_next 10 (some 31)
  · simp only [List.getElem?_toArray, List.getElem?_cons_succ, List.getElem?_cons_zero]; exact rfl
  · rfl
  · kernel_rfl
  · kernel_rfl
  · kernel_rfl
  · exact fun _ _ _ _ h => h
  apply Exists.intro
  apply And.intro
  · exact yr_run (by rfl) (fun w' h => exec_convert 22 9 (.tmp 30) rfl rfl (gT ▸ conv_txt ((rds_drew HP6.out).bl (KB h))))
  simp only [Act.put, List.setIfInBounds_toArray, List.set_cons_zero, List.set_cons_succ]
  apply wpR_next 11 (some 32)
  · simp only [List.getElem?_toArray, List.getElem?_cons_succ, List.getElem?_cons_zero]; exact rfl
  · rfl
  · kernel_rfl
  · kernel_rfl
  · kernel_rfl
  · exact fun _ _ _ _ h => h
  apply Exists.intro
  apply And.intro
  · apply yr_run; rfl; intro w' hw'; go_simp; (try with_reducible rfl)
  simp only [Act.put, List.setIfInBounds_toArray, List.set_cons_zero, List.set_cons_succ]
  apply wpR_next 12 (some 33)
  · simp only [List.getElem?_toArray, List.getElem?_cons_succ, List.getElem?_cons_zero]; exact rfl
  · rfl
  · kernel_rfl
  · kernel_rfl
  · kernel_rfl
  · exact fun _ _ _ _ h => h
  apply Exists.intro
  apply And.intro
  · exact yr_run (by rfl) (fun w' h => exec_convert 22 9 (.tmp 32) rfl rfl (gT ▸ conv_txt ((rds_drew HQ6.out).bl (KB h))))
  simp only [Act.put, List.setIfInBounds_toArray, List.set_cons_zero, List.set_cons_succ]
  apply wpR_next 13 (some 34)
  · simp only [List.getElem?_toArray, List.getElem?_cons_succ, List.getElem?_cons_zero]; exact rfl
  · rfl
  · kernel_rfl
  · kernel_rfl
  · kernel_rfl
  · exact fun _ _ _ _ h => h
  apply Exists.intro
  apply And.intro
  · apply yr_run; rfl; intro w' hw'; go_simp; (try with_reducible rfl)
  simp only [Act.put, List.setIfInBounds_toArray, List.set_cons_zero, List.set_cons_succ]
  apply wpR_next 14 (some 35)
  · simp only [List.getElem?_toArray, List.getElem?_cons_succ, List.getElem?_cons_zero]; exact rfl
  · rfl
  · kernel_rfl
  · kernel_rfl
  · kernel_rfl
  · exact fun _ _ _ _ h => h
  apply Exists.intro
  apply And.intro
  · apply yr_run; rfl; intro w' hw'; go_simp; (try with_reducible rfl)
  simp only [Act.put, List.setIfInBounds_toArray, List.set_cons_zero, List.set_cons_succ]
  apply wpR_next 15 (some 36)
  · simp only [List.getElem?_toArray, List.getElem?_cons_succ, List.getElem?_cons_zero]; exact rfl
  · rfl
  · kernel_rfl
  · kernel_rfl
  · kernel_rfl
  · exact fun _ _ _ _ h => h
  apply Exists.intro
  apply And.intro
  · apply yr_run; rfl; intro w' hw'; go_simp; (try with_reducible rfl)
  simp only [Act.put, List.setIfInBounds_toArray, List.set_cons_zero, List.set_cons_succ]
  apply wpR_next 16 (some 37)
  · simp only [List.getElem?_toArray, List.getElem?_cons_succ, List.getElem?_cons_zero]; exact rfl
  · rfl
  · kernel_rfl
  · kernel_rfl
  · kernel_rfl
  · exact fun _ _ _ _ h => h
  apply Exists.intro
  apply And.intro
  · apply yr_run; rfl; intro w' hw'; go_simp; (try with_reducible rfl)
  simp only [Act.put, List.setIfInBounds_toArray, List.set_cons_zero, List.set_cons_succ]
  apply wpR_next 17 (some 38)
  · simp only [List.getElem?_toArray, List.getElem?_cons_succ, List.getElem?_cons_zero]; exact rfl
  · rfl
  · kernel_rfl
  · kernel_rfl
  · kernel_rfl
  · exact fun _ _ _ _ h => h
  apply Exists.intro
  apply And.intro
  · apply yr_run; rfl; intro w' hw'; go_simp; (try with_reducible rfl)
  simp only [Act.put, List.setIfInBounds_toArray, List.set_cons_zero, List.set_cons_succ]
  apply wpR_next 18 (some 39)
  · simp only [List.getElem?_toArray, List.getElem?_cons_succ, List.getElem?_cons_zero]; exact rfl
  · rfl
  · kernel_rfl
  · kernel_rfl
  · kernel_rfl
  · exact fun _ _ _ _ h => h
  apply Exists.intro
  apply And.intro
  · apply yr_run; rfl; intro w' hw'; go_simp; (try with_reducible rfl)
  simp only [Act.put, List.setIfInBounds_toArray, List.set_cons_zero, List.set_cons_succ]
  apply wpR_next 19 (some 40)
  · simp only [List.getElem?_toArray, List.getElem?_cons_succ, List.getElem?_cons_zero]; exact rfl
  · rfl
  · kernel_rfl
  · kernel_rfl
  · kernel_rfl
  · exact fun _ _ _ _ h => h
  apply Exists.intro
  apply And.intro
  · apply yr_run; rfl; intro w' hw'; go_simp; (try with_reducible rfl)
  simp only [Act.put, List.setIfInBounds_toArray, List.set_cons_zero, List.set_cons_succ]
  apply wpR_next 20 (some 41)
  · simp only [List.getElem?_toArray, List.getElem?_cons_succ, List.getElem?_cons_zero]; exact rfl
  · rfl
  · kernel_rfl
  · kernel_rfl
  · kernel_rfl
  · exact fun _ _ _ _ h => h
  apply Exists.intro
  apply And.intro
  · apply yr_run; rfl; intro w' hw'; go_simp; (try with_reducible rfl)
  simp only [Act.put, List.setIfInBounds_toArray, List.set_cons_zero, List.set_cons_succ]
  apply wpR_next 21 (some 42)
  · simp only [List.getElem?_toArray, List.getElem?_cons_succ, List.getElem?_cons_zero]; exact rfl
  · rfl
  · kernel_rfl
  · kernel_rfl
  · kernel_rfl
  · exact fun _ _ _ _ h => h
  apply Exists.intro
  apply And.intro
  · apply yr_run; rfl; intro w' hw'; go_simp; (try with_reducible rfl)
  simp only [Act.put, List.setIfInBounds_toArray, List.set_cons_zero, List.set_cons_succ]
  apply wpR_next 22 (some 43)
  · simp only [List.getElem?_toArray, List.getElem?_cons_succ, List.getElem?_cons_zero]; exact rfl
  · rfl
  · kernel_rfl
  · kernel_rfl
  · kernel_rfl
  · exact fun _ _ _ _ h => h
  apply Exists.intro
  apply And.intro
  · apply yr_run; rfl; intro w' hw'; go_simp; (try with_reducible rfl)
  simp only [Act.put, List.setIfInBounds_toArray, List.set_cons_zero, List.set_cons_succ]
  apply wpR_next 23 (some 44)
  · simp only [List.getElem?_toArray, List.getElem?_cons_succ, List.getElem?_cons_zero]; exact rfl
  · rfl
  · kernel_rfl
  · kernel_rfl
  · kernel_rfl
  · exact fun _ _ _ _ h => h
  apply Exists.intro
  apply And.intro
  · apply yr_call; rfl; rotate_left; intro w' hw'; exact HS1.out w' hw'; intro w'; go_simp
  simp only [Act.put, List.setIfInBounds_toArray, List.set_cons_zero, List.set_cons_succ]
  apply wpR_next 24 (some 45)
  · simp only [List.getElem?_toArray, List.getElem?_cons_succ, List.getElem?_cons_zero]; exact rfl
  · rfl
  · kernel_rfl
  · kernel_rfl
  · kernel_rfl
  · exact fun _ _ _ _ h => h
  apply Exists.intro
  apply And.intro
  · apply yr_run; rfl; intro w' hw'; go_simp; (try with_reducible rfl)
  simp only [Act.put, List.setIfInBounds_toArray, List.set_cons_zero, List.set_cons_succ]
  apply wpR_next 25 (some 46)
  · simp only [List.getElem?_toArray, List.getElem?_cons_succ, List.getElem?_cons_zero]; exact rfl
  · rfl
  · kernel_rfl
  · kernel_rfl
  · kernel_rfl
  · exact fun _ _ _ _ h => h
  apply Exists.intro
  apply And.intro
  · apply yr_run; rfl; intro w' hw'; go_simp; (try with_reducible rfl)
  simp only [Act.put, List.setIfInBounds_toArray, List.set_cons_zero, List.set_cons_succ]
  apply wpR_next 26 (some 47)
  · simp only [List.getElem?_toArray, List.getElem?_cons_succ, List.getElem?_cons_zero]; exact rfl
  · rfl
  · kernel_rfl
  · kernel_rfl
  · kernel_rfl
  · exact fun _ _ _ _ h => h
  apply Exists.intro
  apply And.intro
  · apply yr_call; rfl; rotate_left; intro w' hw'; exact HS2.out w' hw'; intro w'; go_simp
  simp only [Act.put, List.setIfInBounds_toArray, List.set_cons_zero, List.set_cons_succ]
  apply wpR_next 27 (some 48)
  · simp only [List.getElem?_toArray, List.getElem?_cons_succ, List.getElem?_cons_zero]; exact rfl
  · rfl
  · kernel_rfl
  · kernel_rfl
  · kernel_rfl
  · exact fun _ _ _ _ h => h
  apply Exists.intro
  apply And.intro
  · apply yr_run; rfl; intro w' hw'; go_simp; (try with_reducible rfl)
  simp only [Act.put, List.setIfInBounds_toArray, List.set_cons_zero, List.set_cons_succ]
  apply wpR_next 28 (some 49)
  · simp only [List.getElem?_toArray, List.getElem?_cons_succ, List.getElem?_cons_zero]; exact rfl
  · rfl
  · kernel_rfl
  · kernel_rfl
  · kernel_rfl
  · exact fun _ _ _ _ h => h
  apply Exists.intro
  apply And.intro
  · apply yr_run; rfl; intro w' hw'; go_simp; (try with_reducible rfl)
  simp only [Act.put, List.setIfInBounds_toArray, List.set_cons_zero, List.set_cons_succ]
  apply wpR_next 29 (some 2)
  · simp only [List.getElem?_toArray, List.getElem?_cons_succ, List.getElem?_cons_zero]; exact rfl
  · rfl
  · kernel_rfl
  · kernel_rfl
  · kernel_rfl
  · exact fun _ _ _ _ h => h
  apply Exists.intro
  apply And.intro
  · apply yr_run; rfl; intro w' hw'; go_simp; (try with_reducible rfl)
  simp only [Act.put, List.setIfInBounds_toArray, List.set_cons_zero, List.set_cons_succ]
  refine wpR_done (by kernel_rfl) ?_ _
  intro W7 hw7
  have HB7 : RowKit.Hid (Below w.heap.size w W7) := Lib.hid (HBd.out.trans (hw7.mono HBd.out.size))
  clear hw7 ld6
  go_wp2
  go_ret
  exact ⟨rfl, HB7.out⟩
end Go.Proofs.Ytgmjehejaailpaa
