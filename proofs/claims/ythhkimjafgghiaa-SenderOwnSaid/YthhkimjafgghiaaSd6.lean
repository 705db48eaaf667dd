/- The law SenderAll. -/
import Derived.Test.YthhkimjafgghiaaSd5
import Derived.Test.YthhkimjafgghiaaOpenG
namespace Go.Proofs.Ythhkimjafgghiaa
open Go.RowKit
set_option linter.unusedSimpArgs false
set_option linter.unusedVariables false

/-- A law's row of bytes. -/
abbrev Ar := Option Addr × Nat × Nat × List Nat
theorem slCells_len (e : Ar) : (slCells e).length = 1 := rfl
/-- What is known of each row of bytes that a law is handed. -/
def ArOk (w : World) (e : Ar) : Prop := e.2.2.1 ≤ maxLen ∧ RdS w w.heap.size 1 e.1 e.2.1 e.2.2.1 (rowsV f8 e.2.2.2) ∧ ∀ b ∈ e.2.2.2, b < 256
/-- What a round starts from. -/
def AllIn (w : World) (g win k : Nat) (wr : World) : Prop := ∃ A c es q, SdIn w.heap.size wr g win k [] A c es q ∧ Below w.heap.size w wr
set_option maxRecDepth 100000 in
set_option maxHeartbeats 4000000 in
theorem law_all (x : Int) (A : Option Addr) (n c : Nat) (Es : List Ar) (w : World) (h : RdS w w.heap.size 1 A n c (rowsV slCells Es)) (he : ∀ e ∈ Es, ArOk w e) (hn : n ≤ maxLen) :
    Calls Try.prog 5 #[.int .i64 x, .slice A n c] w fun e w' => e = .returned (.bool true) ∧ Below w.heap.size w w' := by
  have hl := h.rlen slCells_len (by decide)
  unfold maxLen at hn
  have HR := Lib.hid h
  have HE := Lib.hid he
  have Hl := Lib.hid hl
  obtain ⟨i0, hi, hz0, hz1, hz2⟩ := info_parts_ info_u8
  clear h he hl
  go_enter Try.func5, Try.ntmps5
  go_wp2_with fail
  refine (shown16 _).mono ?_
  rintro e w1 ⟨rfl, hb1⟩
  have HB1 := Lib.hid hb1
  clear hb1
  go_wp2_with fail
  refine (new_any x w1).mono ?_
  rintro e w2 ⟨g, win, rfl, hwin, hS, hb2⟩
  have hwin1 : 1 ≤ win := by omega
  have HA0 : RowKit.Hid (AllIn w g win 0 w2) := Lib.hid ⟨none, 0, [], none, ⟨hS.box, Nat.le_trans HB1.out.size hS.lo, hS.row, .inl ⟨rfl, World.ownsRow_nil _ _ _ _⟩, hS.rne, hS.kne, hS.each⟩, bel_bl HB1.out hb2⟩
  clear hwin hS hb2 HB1
  go_wp2
  go_loopw [7] (fun i wr => ∃ k : Nat, k ≤ 100 ∧ i = .int .i64 k ∧ RowKit.Hid (AllIn w g win k wr)) (fun i _ => 100 - (intOf i).toNat)
  case atStart => exact ⟨0, by omega, rfl, HA0⟩
  case round =>
    rename_i wr _
    clear HA0
    obtain ⟨k, hk, rfl, HA⟩ := hrel
    by_cases hlt : k < n ∧ k < 100
    · obtain ⟨hkn, hk1⟩ := hlt
      have t1 : decide (k < n) = true := decide_eq_true hkn
      have t2 : decide ((k : Int) < 100) = true := decide_eq_true (by omega)
      obtain ⟨As, cs, es, q, hS, hB⟩ := HA.out
      obtain ⟨⟨a, m, c0, L0⟩, hx⟩ : ∃ x, Es[k]? = some x := ⟨_, List.getElem?_eq_getElem (by have := Hl.out; omega)⟩
      obtain ⟨hm, hr0, h256⟩ := HE.out _ (List.mem_of_getElem? hx)
      obtain ⟨bb, off, hA, hbB, hpl⟩ := HR.out.place slCells_len (by decide) (by omega)
      have hc0 := hpl k _ hx 0 _ rfl
      rw [Addr.add_lit] at hc0
      simp only [Nat.add_zero, Nat.mul_one] at hc0
      subst hA
      have HS := Lib.hid hS
      have HB := Lib.hid hB
      have HC0 := Lib.hid hc0
      have Hr0 := Lib.hid hr0
      have hs := fun W hr => short_any a m c0 L0 W hr (Nat.le_trans hr0.le hm)
      have hsb := fun W hr => short_b a m c0 L0 W hr (Nat.le_trans hr0.le hm)
      have hrt := hr0.fewer8 60
      have hb6 : ∀ b ∈ L0.take 60, b < 256 := fun b hb => h256 b (List.mem_of_mem_take hb)
      have h60 : (L0.take 60).length ≤ 60 := by rw [List.length_take]; omega
      obtain ⟨L, gL⟩ : ∃ y, L0.take 60 = y := ⟨_, rfl⟩
      rw [gL] at hs hsb hrt hb6 h60
      have HSh := Lib.hid hs
      have HSb := Lib.hid hsb
      have HRt := Lib.hid hrt
      have Hb6 := Lib.hid hb6
      have Hbb := Lib.hid hbB
      have lc := (bel_al hB (.cells #[] 5)).cell (p := ⟨bb, off + k, none⟩) hbB
      rw [hc0] at lc
      clear hS hB hx hm hr0 h256 hpl hc0 hs hsb hrt hb6 gL hbB HA
      go_upto_region 8 with fail
      clear t1 t2
      have HRa := Lib.hid (Hr0.out.up (bel_al HB.out (.cells #[] 5)) (bel_al HB.out (.cells #[] 5)).size)
      have HRb := Lib.hid (HRt.out.up (bel_al HB.out (.cells #[] 5)) (bel_al HB.out (.cells #[] 5)).size)
      go_wp2_with (first
        | (go_at_call 13
           refine (HSh.out _ HRa.out).mono ?_
           rintro e w3 ⟨rfl, rfl⟩)
        | (at_builtin
           refine wpList_push2 rfl (.tmp 36) (.tmp 41) _ rfl _ 5 i0 _ 1 1 Try.underlying32 hi hz0 hz1 hz2 rfl (by decide) _ _ _ rfl (Ow.new_ (cs := #[]) (Below.refl _ _) (Nat.le_refl _) (Nat.le_refl _) (Nat.zero_le _) rfl) _ _ _ _ _ rfl HRb.out (f8_all _) (by unfold maxLen; omega) (by omega) ?_
           intro v1 w4 how1 hb4 hgr
           rw [Nat.zero_add, List.nil_append] at how1
           obtain ⟨Ap, cp, rfl, hr4⟩ := how1.rds
           have HOW := Lib.hid how1
           have HRp := Lib.hid hr4
           clear how1 hb4 hgr hr4))
      have hS4 := HS.out.below HOW.out.below
      have HB4 : RowKit.Hid (Below w.heap.size w w4) := Lib.hid (bel_bl HB.out HOW.out.below)
      have hP := push_yes w4 hS4 (by omega) (by simp) Ap cp L HRp.out Hb6.out h60 hwin1 HB4.out.size
      have HP : RowKit.Hid (Calls Try.prog 11 #[.pointer (some ⟨g, 0, none⟩), .slice Ap L.length cp] w4 fun e w' => e = .returned (.tuple #[.int .i64 ((k : Int) + 1), .int .i64 0]) ∧ Below w.heap.size w4 w' ∧ ∃ A' c' es' k', SdIn w.heap.size w' g win k [L] A' c' es' k') := Lib.hid (hP.mono fun e w' ⟨h1, A', c', es', k', h2, h3, h4⟩ => ⟨h1, hS4.far h3 HB4.out.size, A', c', es', k', h2⟩)
      clear hP hS4 HOW HRa HRb HRp lc HSh
      refine HP.out.mono ?_
      rintro e w5 ⟨rfl, hb5, A5, c5, es5, k5, hS5⟩
      have HS5 := Lib.hid hS5
      have HB5 : RowKit.Hid (Below w.heap.size w w5) := Lib.hid (HB4.out.trans hb5)
      clear hb5 hS5 HP HB4 HS HB
      have HBo := Lib.hid (body_yes w5 HS5.out (by omega) (by simp) ((k : Int) + 1) 0 L rfl (by omega))
      go_wp2_with fail
      refine HBo.out.mono ?_
      rintro e w6 ⟨Ab, cb, rfl, hrb, hfb, -, hb6⟩
      have HS6 := Lib.hid (HS5.out.below hb6)
      have HB6 : RowKit.Hid (Below w.heap.size w w6) := Lib.hid (bel_bl HB5.out hb6)
      have HRb := Lib.hid hrb
      have HFb : RowKit.Hid (∀ a, Ab = some a → 0 < L.length → a.block ≠ g) := Lib.hid (fun a ha hn e => by have h1 := hfb a ha hn; have h2 := HS5.out.lt; omega)
      clear hrb hfb hb6 HBo HS5 HB5
      have HD := Lib.hid (due_any w6 HS6.out (by omega) (by simp))
      go_wp2_with fail
      refine HD.out.mono ?_
      rintro e w7 ⟨gd, rfl, hgd, hwd, hb7⟩
      have HS7 := Lib.hid (HS6.out.below hb7)
      have HB7 : RowKit.Hid (Below w.heap.size w w7) := Lib.hid (bel_bl HB6.out hb7)
      have HRb7 := Lib.hid (HRb.out.bl hb7)
      have HGd : RowKit.Hid (gd ≠ g) := Lib.hid (by have := HS6.out.lt; omega)
      have HW7 := Lib.hid hwd
      clear hb7 HD HS6 HB6 HRb hgd hwd
      go_upto_region 11 with fail
      have HS8 := Lib.hid HS7.out.drew
      have HB8 : RowKit.Hid (Below w.heap.size w w7.drew) := Lib.hid (bel_dr HB7.out)
      have HRb8 := Lib.hid HRb7.out.dr
      have HW8 := Lib.hid HW7.out.drew
      have HRt8 := Lib.hid (HRt.out.up HB8.out HB8.out.size)
      have Hr08 := Lib.hid (Hr0.out.up HB8.out HB8.out.size)
      have HLt : RowKit.Hid (∀ a', a = some a' → 0 < L.length → ¬ a'.block = g) := Lib.hid (fun a' ha hn e => by have h1 := HRt.out.low a' ha hn; have h2 := HS8.out.lo; omega)
      have HLt0 : RowKit.Hid (∀ a', a = some a' → 0 < m → ¬ a'.block = g) := Lib.hid (fun a' ha hn e => by have h1 := Hr0.out.low a' ha hn; have h2 := HS8.out.lo; omega)
      have ldc : ∀ w', Kept (fun b => b = g) w7.drew w' → w'.cell? ⟨bb, off + k, none⟩ = some (.slice a m c0) := fun w' hk => hk.cell (HB8.out.cell (p := ⟨bb, off + k, none⟩) Hbb.out |>.trans HC0.out) (fun e => by have h1 := Hbb.out; have h2 := HS8.out.lo; have h3 : bb = g := e; omega)
      have ldd : ∀ w', Kept (fun b => b = g) w7.drew w' → w'.cell? ⟨gd, 0, none⟩ = some (.int .i64 ((k : Int) + 1)) := fun w' hk => hk.cell ((HW8.out.cell (i := 0) (v := .int .i64 ((k : Int) + ((0 : Nat) : Int) + 1)) rfl).trans (by rw [show ((0 : Nat) : Int) = 0 from rfl, Int.add_zero])) (fun e => HGd.out e)
      have HQ : RowKit.Hid (∀ w', Kept (fun b => b = g) w7.drew w' → Calls Try.prog 13 #[.slice a m c0] w' fun e w'' => e = .returned (.slice a L.length c0) ∧ Below w'.heap.size w' w'') := Lib.hid (fun w' hk => HSb.out w' (RdS.kept_ne Hr08.out hk HLt0.out))
      obtain ⟨T, gT⟩ : ∃ y, txt L = y := ⟨_, rfl⟩
      have HT1 : RowKit.Hid (∀ w', Kept (fun b => b = g) w7.drew w' → (convert 32 9 (.slice Ab L.length cb)).run Try.prog w' = .ok (.string T) w') := Lib.hid (fun w' hk => gT ▸ conv_txt (RdS.kept_ne HRb8.out hk HFb.out))
      have HT2 : RowKit.Hid (∀ w', Kept (fun b => b = g) w7.drew w' → (convert 32 9 (.slice a L.length c0)).run Try.prog w' = .ok (.string T) w') := Lib.hid (fun w' hk => gT ▸ conv_txt (RdS.kept_ne HRt8.out hk HLt.out))
      have hw1 : IntKind.i64.wrap ((k : Int) + 1) = (k : Int) + 1 := IntWalk.i64_in _ (by omega)
      have hw2 : IntKind.i64.wrap ((k : Int) + 1 + 1) = (k : Int) + 1 + 1 := IntWalk.i64_in _ (by omega)
      clear gT HS7 HB7 HRb7 HW7
      refine wp_region_reg (fun b => b = g) (by kernel_rfl) ?_
      apply wpR_next 0 (some 54)
      · simp only [List.getElem?_toArray, List.getElem?_cons_succ, List.getElem?_cons_zero]; exact rfl
      · rfl
      · kernel_rfl
      · kernel_rfl
      · kernel_rfl
      · exact fun _ _ _ _ h => h
      apply Exists.intro
      apply And.intro
      · apply yr_run; rfl; intro w' hw'; go_simp; (try with_reducible rfl)
      simp only [Act.put, List.setIfInBounds_toArray, List.set_cons_zero, List.set_cons_succ]
      apply wpR_next 1 (some 55)
      · simp only [List.getElem?_toArray, List.getElem?_cons_succ, List.getElem?_cons_zero]; exact rfl
      · rfl
      · kernel_rfl
      · kernel_rfl
      · kernel_rfl
      · exact fun _ _ _ _ h => h
      apply Exists.intro
      apply And.intro
      · apply yr_run; rfl; intro w' hw'; go_simp; (try with_reducible rfl)
      simp only [Act.put, List.setIfInBounds_toArray, List.set_cons_zero, List.set_cons_succ]
      apply wpR_next 2 (some 56)
      · simp only [List.getElem?_toArray, List.getElem?_cons_succ, List.getElem?_cons_zero]; exact rfl
      · rfl
      · kernel_rfl
      · kernel_rfl
      · kernel_rfl
      · exact fun _ _ _ _ h => h
      apply Exists.intro
      apply And.intro
      · apply yr_run; rfl; intro w' hw'; go_simp; (try with_reducible rfl)
      simp only [Act.put, List.setIfInBounds_toArray, List.set_cons_zero, List.set_cons_succ]
      apply wpR_next 3 (some 57)
      · simp only [List.getElem?_toArray, List.getElem?_cons_succ, List.getElem?_cons_zero]; exact rfl
      · rfl
      · kernel_rfl
      · kernel_rfl
      · kernel_rfl
      · exact fun _ _ _ _ h => h
      apply Exists.intro
      apply And.intro
      · apply yr_run; rfl; intro w' hw'; go_simp; (try with_reducible rfl)
      simp only [Act.put, List.setIfInBounds_toArray, List.set_cons_zero, List.set_cons_succ]
      apply wpR_next 4 (some 58)
      · simp only [List.getElem?_toArray, List.getElem?_cons_succ, List.getElem?_cons_zero]; exact rfl
      · rfl
      · kernel_rfl
      · kernel_rfl
      · kernel_rfl
      · exact fun _ _ _ _ h => h
      apply Exists.intro
      apply And.intro
      · apply yr_run; rfl; intro w' hw'; go_simp; (try with_reducible rfl)
      simp only [Act.put, List.setIfInBounds_toArray, List.set_cons_zero, List.set_cons_succ]
      apply wpR_next 5 (some 59)
      · simp only [List.getElem?_toArray, List.getElem?_cons_succ, List.getElem?_cons_zero]; exact rfl
      · rfl
      · kernel_rfl
      · kernel_rfl
      · kernel_rfl
      · exact fun _ _ _ _ h => h
      apply Exists.intro
      apply And.intro
      · apply yr_run; rfl; intro w' hw'; go_simp; (try with_reducible rfl)
      simp only [Act.put, List.setIfInBounds_toArray, List.set_cons_zero, List.set_cons_succ]
      apply wpR_next 6 (some 60)
      · simp only [List.getElem?_toArray, List.getElem?_cons_succ, List.getElem?_cons_zero]; exact rfl
      · rfl
      · kernel_rfl
      · kernel_rfl
      · kernel_rfl
      · exact fun _ _ _ _ h => h
      apply Exists.intro
      apply And.intro
      · apply yr_run; rfl; intro w' hw'; go_simp; (try with_reducible rfl)
      simp only [Act.put, List.setIfInBounds_toArray, List.set_cons_zero, List.set_cons_succ]
      apply wpR_next 7 (some 61)
      · simp only [List.getElem?_toArray, List.getElem?_cons_succ, List.getElem?_cons_zero]; exact rfl
      · rfl
      · kernel_rfl
      · kernel_rfl
      · kernel_rfl
      · exact fun _ _ _ _ h => h
      apply Exists.intro
      apply And.intro
      · apply yr_run; rfl; intro w' hw'; go_simp; (try with_reducible rfl)
      simp only [Act.put, List.setIfInBounds_toArray, List.set_cons_zero, List.set_cons_succ]
      apply wpR_next 8 (some 62)
      · simp only [List.getElem?_toArray, List.getElem?_cons_succ, List.getElem?_cons_zero]; exact rfl
      · rfl
      · kernel_rfl
      · kernel_rfl
      · kernel_rfl
      · exact fun _ _ _ _ h => h
      apply Exists.intro
      apply And.intro
      · apply yr_run; rfl; intro w' hw'; go_simp; (try with_reducible rfl)
      simp only [Act.put, List.setIfInBounds_toArray, List.set_cons_zero, List.set_cons_succ]
      apply wpR_next 9 (some 63)
      · simp only [List.getElem?_toArray, List.getElem?_cons_succ, List.getElem?_cons_zero]; exact rfl
      · rfl
      · kernel_rfl
      · kernel_rfl
      · kernel_rfl
      · exact fun _ _ _ _ h => h
      apply Exists.intro
      apply And.intro
      · apply yr_run; rfl; intro w' hw'; go_simp; (try with_reducible rfl)
      simp only [Act.put, List.setIfInBounds_toArray, List.set_cons_zero, List.set_cons_succ]
      apply wpR_next 10 (some 64)
      · simp only [List.getElem?_toArray, List.getElem?_cons_succ, List.getElem?_cons_zero]; exact rfl
      · rfl
      · kernel_rfl
      · kernel_rfl
      · kernel_rfl
      · exact fun _ _ _ _ h => h
      apply Exists.intro
      apply And.intro
      · apply yr_run; rfl; intro w' hw'; go_simp; (try with_reducible rfl)
      simp only [Act.put, List.setIfInBounds_toArray, List.set_cons_zero, List.set_cons_succ]
      apply wpR_next 11 (some 65)
      · simp only [List.getElem?_toArray, List.getElem?_cons_succ, List.getElem?_cons_zero]; exact rfl
      · rfl
      · kernel_rfl
      · kernel_rfl
      · kernel_rfl
      · exact fun _ _ _ _ h => h
      apply Exists.intro
      apply And.intro
      · apply yr_run; rfl; intro w' hw'; go_simp; (try with_reducible rfl)
      simp only [Act.put, List.setIfInBounds_toArray, List.set_cons_zero, List.set_cons_succ]
      apply wpR_next 12 (some 66)
      · simp only [List.getElem?_toArray, List.getElem?_cons_succ, List.getElem?_cons_zero]; exact rfl
      · rfl
      · kernel_rfl
      · kernel_rfl
      · kernel_rfl
      · exact fun _ _ _ _ h => h
      apply Exists.intro
      apply And.intro
      · apply yr_run; rfl; intro w' hw'; go_simp; (try with_reducible rfl)
      simp only [Act.put, List.setIfInBounds_toArray, List.set_cons_zero, List.set_cons_succ]
      apply wpR_next 13 (some 67)
      · simp only [List.getElem?_toArray, List.getElem?_cons_succ, List.getElem?_cons_zero]; exact rfl
      · rfl
      · kernel_rfl
      · kernel_rfl
      · kernel_rfl
      · exact fun _ _ _ _ h => h
      apply Exists.intro
      apply And.intro
      · apply yr_run; rfl; intro w' hw'; go_simp; (try with_reducible rfl)
      simp only [Act.put, List.setIfInBounds_toArray, List.set_cons_zero, List.set_cons_succ]
      apply wpR_next 14 (some 68)
      · simp only [List.getElem?_toArray, List.getElem?_cons_succ, List.getElem?_cons_zero]; exact rfl
      · rfl
      · kernel_rfl
      · kernel_rfl
      · kernel_rfl
      · exact fun _ _ _ _ h => h
      apply Exists.intro
      apply And.intro
      · exact yr_run (by rfl) (fun w' h => exec_convert 32 9 (.tmp 67) rfl rfl (HT1.out w' h))
      simp only [Act.put, List.setIfInBounds_toArray, List.set_cons_zero, List.set_cons_succ]
      apply wpR_next 15 (some 69)
      · simp only [List.getElem?_toArray, List.getElem?_cons_succ, List.getElem?_cons_zero]; exact rfl
      · rfl
      · kernel_rfl
      · kernel_rfl
      · kernel_rfl
      · exact fun _ _ _ _ h => h
      apply Exists.intro
      apply And.intro
      · apply yr_run; rfl; intro w' hw'; go_simp; (try with_reducible rfl)
      simp only [Act.put, List.setIfInBounds_toArray, List.set_cons_zero, List.set_cons_succ]
      apply wpR_next 16 (some 70)
      · simp only [List.getElem?_toArray, List.getElem?_cons_succ, List.getElem?_cons_zero]; exact rfl
      · rfl
      · kernel_rfl
      · kernel_rfl
      · kernel_rfl
      · exact fun _ _ _ _ h => h
      apply Exists.intro
      apply And.intro
      · apply yr_run; rfl; intro w' hw'; go_simp; (try with_reducible rfl)
      simp only [Act.put, List.setIfInBounds_toArray, List.set_cons_zero, List.set_cons_succ]
      apply wpR_next 17 (some 71)
      · simp only [List.getElem?_toArray, List.getElem?_cons_succ, List.getElem?_cons_zero]; exact rfl
      · rfl
      · kernel_rfl
      · kernel_rfl
      · kernel_rfl
      · exact fun _ _ _ _ h => h
      apply Exists.intro
      apply And.intro
      · apply yr_run; rfl; intro w' hw'; go_simp; (try with_reducible rfl)
      simp only [Act.put, List.setIfInBounds_toArray, List.set_cons_zero, List.set_cons_succ]
      apply wpR_next 18 (some 72)
      · simp only [List.getElem?_toArray, List.getElem?_cons_succ, List.getElem?_cons_zero]; exact rfl
      · rfl
      · kernel_rfl
      · kernel_rfl
      · kernel_rfl
      · exact fun _ _ _ _ h => h
      apply Exists.intro
      apply And.intro
      · apply yr_run; rfl; intro w' hw'; go_simp; (try with_reducible rfl)
      simp only [Act.put, List.setIfInBounds_toArray, List.set_cons_zero, List.set_cons_succ]
      apply wpR_next 19 (some 73)
      · simp only [List.getElem?_toArray, List.getElem?_cons_succ, List.getElem?_cons_zero]; exact rfl
      · rfl
      · kernel_rfl
      · kernel_rfl
      · kernel_rfl
      · exact fun _ _ _ _ h => h
      apply Exists.intro
      apply And.intro
      · apply yr_call; rfl; rotate_left; intro w' hw'; exact HQ.out w' hw'; intro w'; go_simp
      simp only [Act.put, List.setIfInBounds_toArray, List.set_cons_zero, List.set_cons_succ]
      apply wpR_next 20 (some 74)
      · simp only [List.getElem?_toArray, List.getElem?_cons_succ, List.getElem?_cons_zero]; exact rfl
      · rfl
      · kernel_rfl
      · kernel_rfl
      · kernel_rfl
      · exact fun _ _ _ _ h => h
      apply Exists.intro
      apply And.intro
      · exact yr_run (by rfl) (fun w' h => exec_convert 32 9 (.tmp 73) rfl rfl (HT2.out w' h))
      simp only [Act.put, List.setIfInBounds_toArray, List.set_cons_zero, List.set_cons_succ]
      apply wpR_next 21 (some 75)
      · simp only [List.getElem?_toArray, List.getElem?_cons_succ, List.getElem?_cons_zero]; exact rfl
      · rfl
      · kernel_rfl
      · kernel_rfl
      · kernel_rfl
      · exact fun _ _ _ _ h => h
      apply Exists.intro
      apply And.intro
      · apply yr_run; rfl; intro w' hw'; go_simp; (try with_reducible rfl)
      simp only [Act.put, List.setIfInBounds_toArray, List.set_cons_zero, List.set_cons_succ]
      apply wpR_next 22 (some 76)
      · simp only [List.getElem?_toArray, List.getElem?_cons_succ, List.getElem?_cons_zero]; exact rfl
      · rfl
      · kernel_rfl
      · kernel_rfl
      · kernel_rfl
      · exact fun _ _ _ _ h => h
      apply Exists.intro
      apply And.intro
      · apply yr_run; rfl; intro w' hw'; go_simp; (try with_reducible rfl)
      simp only [Act.put, List.setIfInBounds_toArray, List.set_cons_zero, List.set_cons_succ]
      apply wpR_next 23 (some 77)
      · simp only [List.getElem?_toArray, List.getElem?_cons_succ, List.getElem?_cons_zero]; exact rfl
      · rfl
      · kernel_rfl
      · kernel_rfl
      · kernel_rfl
      · exact fun _ _ _ _ h => h
      apply Exists.intro
      apply And.intro
      · apply yr_run; rfl; intro w' hw'; go_simp; (try with_reducible rfl)
      simp only [Act.put, List.setIfInBounds_toArray, List.set_cons_zero, List.set_cons_succ]
      apply wpR_next 24 (some 78)
      · simp only [List.getElem?_toArray, List.getElem?_cons_succ, List.getElem?_cons_zero]; exact rfl
      · rfl
      · kernel_rfl
      · kernel_rfl
      · kernel_rfl
      · exact fun _ _ _ _ h => h
      apply Exists.intro
      apply And.intro
      · apply yr_run; rfl; intro w' hw'; go_simp; (try with_reducible rfl)
      simp only [Act.put, List.setIfInBounds_toArray, List.set_cons_zero, List.set_cons_succ]
      apply wpR_next 25 (some 79)
      · simp only [List.getElem?_toArray, List.getElem?_cons_succ, List.getElem?_cons_zero]; exact rfl
      · rfl
      · kernel_rfl
      · kernel_rfl
      · kernel_rfl
      · exact fun _ _ _ _ h => h
      apply Exists.intro
      apply And.intro
      · apply yr_run; rfl; intro w' hw'; go_simp; (try with_reducible rfl)
      simp only [Act.put, List.setIfInBounds_toArray, List.set_cons_zero, List.set_cons_succ]
      apply wpR_next 26 (some 80)
      · simp only [List.getElem?_toArray, List.getElem?_cons_succ, List.getElem?_cons_zero]; exact rfl
      · rfl
      · kernel_rfl
      · kernel_rfl
      · kernel_rfl
      · exact fun _ _ _ _ h => h
      apply Exists.intro
      apply And.intro
      · apply yr_run; rfl; intro w' hw'; go_simp; (try with_reducible rfl)
      simp only [Act.put, List.setIfInBounds_toArray, List.set_cons_zero, List.set_cons_succ]
      apply wpR_next 27 (some 81)
      · simp only [List.getElem?_toArray, List.getElem?_cons_succ, List.getElem?_cons_zero]; exact rfl
      · rfl
      · kernel_rfl
      · kernel_rfl
      · kernel_rfl
      · exact fun _ _ _ _ h => h
      apply Exists.intro
      apply And.intro
      · apply yr_run; rfl; intro w' hw'; go_simp; (try with_reducible rfl)
      simp only [Act.put, List.setIfInBounds_toArray, List.set_cons_zero, List.set_cons_succ]
      apply wpR_next 28 (some 82)
      · simp only [List.getElem?_toArray, List.getElem?_cons_succ, List.getElem?_cons_zero]; exact rfl
      · rfl
      · kernel_rfl
      · kernel_rfl
      · kernel_rfl
      · exact fun _ _ _ _ h => h
      apply Exists.intro
      apply And.intro
      · apply yr_run; rfl; intro w' hw'; go_simp; (try with_reducible rfl)
      simp only [Act.put, List.setIfInBounds_toArray, List.set_cons_zero, List.set_cons_succ]
      apply wpR_next 29 (some 83)
      · simp only [List.getElem?_toArray, List.getElem?_cons_succ, List.getElem?_cons_zero]; exact rfl
      · rfl
      · kernel_rfl
      · kernel_rfl
      · kernel_rfl
      · exact fun _ _ _ _ h => h
      apply Exists.intro
      apply And.intro
      · apply yr_run; rfl; intro w' hw'; go_simp; (try with_reducible rfl)
      simp only [Act.put, List.setIfInBounds_toArray, List.set_cons_zero, List.set_cons_succ]
      apply wpR_next 30 (some 84)
      · simp only [List.getElem?_toArray, List.getElem?_cons_succ, List.getElem?_cons_zero]; exact rfl
      · rfl
      · kernel_rfl
      · kernel_rfl
      · kernel_rfl
      · exact fun _ _ _ _ h => h
      apply Exists.intro
      apply And.intro
      · apply yr_run; rfl; intro w' hw'; go_simp; (try with_reducible rfl)
      simp only [Act.put, List.setIfInBounds_toArray, List.set_cons_zero, List.set_cons_succ]
      apply wpR_next 31 (some 85)
      · simp only [List.getElem?_toArray, List.getElem?_cons_succ, List.getElem?_cons_zero]; exact rfl
      · rfl
      · kernel_rfl
      · kernel_rfl
      · kernel_rfl
      · exact fun _ _ _ _ h => h
      apply Exists.intro
      apply And.intro
      · apply yr_run; rfl; intro w' hw'; go_simp; (try with_reducible rfl)
      simp only [Act.put, List.setIfInBounds_toArray, List.set_cons_zero, List.set_cons_succ]
      apply wpR_next 32 (some 86)
      · simp only [List.getElem?_toArray, List.getElem?_cons_succ, List.getElem?_cons_zero]; exact rfl
      · rfl
      · kernel_rfl
      · kernel_rfl
      · kernel_rfl
      · exact fun _ _ _ _ h => h
      apply Exists.intro
      apply And.intro
      · apply yr_run; rfl; intro w' hw'; go_simp; (try with_reducible rfl)
      simp only [Act.put, List.setIfInBounds_toArray, List.set_cons_zero, List.set_cons_succ]
      apply wpR_next 33 (some 87)
      · simp only [List.getElem?_toArray, List.getElem?_cons_succ, List.getElem?_cons_zero]; exact rfl
      · rfl
      · kernel_rfl
      · kernel_rfl
      · kernel_rfl
      · exact fun _ _ _ _ h => h
      apply Exists.intro
      apply And.intro
      · apply yr_run; rfl; intro w' hw'; go_simp; (try with_reducible rfl)
      simp only [Act.put, List.setIfInBounds_toArray, List.set_cons_zero, List.set_cons_succ]
      apply wpR_next 34 (some 88)
      · simp only [List.getElem?_toArray, List.getElem?_cons_succ, List.getElem?_cons_zero]; exact rfl
      · rfl
      · kernel_rfl
      · kernel_rfl
      · kernel_rfl
      · exact fun _ _ _ _ h => h
      apply Exists.intro
      apply And.intro
      · apply yr_run; rfl; intro w' hw'; go_simp; (try with_reducible rfl)
      simp only [Act.put, List.setIfInBounds_toArray, List.set_cons_zero, List.set_cons_succ]
      apply wpR_next 35 (some 89)
      · simp only [List.getElem?_toArray, List.getElem?_cons_succ, List.getElem?_cons_zero]; exact rfl
      · rfl
      · kernel_rfl
      · kernel_rfl
      · kernel_rfl
      · exact fun _ _ _ _ h => h
      apply Exists.intro
      apply And.intro
      · apply yr_run; rfl; intro w' hw'; go_simp; (try with_reducible rfl)
      simp only [Act.put, List.setIfInBounds_toArray, List.set_cons_zero, List.set_cons_succ]
      apply wpR_next 36 (some 90)
      · simp only [List.getElem?_toArray, List.getElem?_cons_succ, List.getElem?_cons_zero]; exact rfl
      · rfl
      · kernel_rfl
      · kernel_rfl
      · kernel_rfl
      · exact fun _ _ _ _ h => h
      apply Exists.intro
      apply And.intro
      · apply yr_run; rfl; intro w' hw'; go_simp; (try with_reducible rfl)
      simp only [Act.put, List.setIfInBounds_toArray, List.set_cons_zero, List.set_cons_succ]
      apply wpR_next 37 (some 91)
      · simp only [List.getElem?_toArray, List.getElem?_cons_succ, List.getElem?_cons_zero]; exact rfl
      · rfl
      · kernel_rfl
      · kernel_rfl
      · kernel_rfl
      · exact fun _ _ _ _ h => h
      apply Exists.intro
      apply And.intro
      · apply yr_run; rfl; intro w' hw'; go_simp; (try with_reducible rfl)
      simp only [Act.put, List.setIfInBounds_toArray, List.set_cons_zero, List.set_cons_succ]
      apply wpR_call 38 (some 92)
      · simp only [List.getElem?_toArray, List.getElem?_cons_succ, List.getElem?_cons_zero]; exact rfl
      · rfl
      · kernel_rfl
      · rfl
      · intro w'; go_simp; first | done | exact ⟨rfl, rfl⟩ | with_reducible rfl
      intro w' hw'
      have hs := HS8.out.below hw'
      have ha := ack_yes w' hs (by omega) (by simp) 1 (by simp)
      refine (show Calls Try.prog 12 #[.pointer (some ⟨g, 0, none⟩), .int .i64 ((k : Int) + 1)] w' _ from ha).mono ?_
      rintro e w'' ⟨rfl, A9, c9, es9, k9, hs9, hk9, -⟩
      refine ⟨_, rfl, hk9, ?_⟩
      have HS9 : RowKit.Hid (SdIn w.heap.size w'' g win (k + 1) [] A9 c9 es9 k9) := Lib.hid hs9
      have HK9 : RowKit.Hid (Kept (fun b => b = g) w7.drew w'') := Lib.hid ((Kept.of_ext hw').trans hk9)
      obtain ⟨W9, gW9⟩ : ∃ x, w'' = x := ⟨_, rfl⟩
      rw [gW9] at HS9 HK9 ⊢
      clear hs ha hs9 hk9 hw' gW9
      simp only [Act.put, List.setIfInBounds_toArray, List.set_cons_zero, List.set_cons_succ]
      apply wpR_next 39 (some 93)
      · simp only [List.getElem?_toArray, List.getElem?_cons_succ, List.getElem?_cons_zero]; exact rfl
      · rfl
      · kernel_rfl
      · kernel_rfl
      · kernel_rfl
      · exact fun _ _ _ _ h => h
      apply Exists.intro
      apply And.intro
      · apply yr_run; rfl; intro w' hw'; go_simp; (try with_reducible rfl)
      simp only [Act.put, List.setIfInBounds_toArray, List.set_cons_zero, List.set_cons_succ]
      apply wpR_next 40 (some 94)
      · simp only [List.getElem?_toArray, List.getElem?_cons_succ, List.getElem?_cons_zero]; exact rfl
      · rfl
      · kernel_rfl
      · kernel_rfl
      · kernel_rfl
      · exact fun _ _ _ _ h => h
      apply Exists.intro
      apply And.intro
      · apply yr_run; rfl; intro w' hw'; go_simp; (try with_reducible rfl)
      simp only [Act.put, List.setIfInBounds_toArray, List.set_cons_zero, List.set_cons_succ]
      apply wpR_next 41 (some 95)
      · simp only [List.getElem?_toArray, List.getElem?_cons_succ, List.getElem?_cons_zero]; exact rfl
      · rfl
      · kernel_rfl
      · kernel_rfl
      · kernel_rfl
      · exact fun _ _ _ _ h => h
      apply Exists.intro
      apply And.intro
      · apply yr_run; rfl; intro w' hw'; go_simp; (try with_reducible rfl)
      simp only [Act.put, List.setIfInBounds_toArray, List.set_cons_zero, List.set_cons_succ]
      apply wpR_next 42 (some 96)
      · simp only [List.getElem?_toArray, List.getElem?_cons_succ, List.getElem?_cons_zero]; exact rfl
      · rfl
      · kernel_rfl
      · kernel_rfl
      · kernel_rfl
      · exact fun _ _ _ _ h => h
      apply Exists.intro
      apply And.intro
      · apply yr_run; rfl; intro w' hw'; go_simp; (try with_reducible rfl)
      simp only [Act.put, List.setIfInBounds_toArray, List.set_cons_zero, List.set_cons_succ]
      apply wpR_call 43 (some 97)
      · simp only [List.getElem?_toArray, List.getElem?_cons_succ, List.getElem?_cons_zero]; exact rfl
      · rfl
      · kernel_rfl
      · rfl
      · intro w'; go_simp; first | done | exact ⟨rfl, rfl⟩ | with_reducible rfl
      intro w' hw'
      have hs := HS9.out.below hw'
      refine (due_any w' hs (by omega) (by simp)).mono ?_
      rintro e w'' ⟨g10, rfl, -, -, hb⟩
      refine ⟨_, rfl, Kept.of_below hb, ?_⟩
      have HSa := Lib.hid (hs.below hb)
      have HKa : RowKit.Hid (Kept (fun b => b = g) w7.drew w'') := Lib.hid (HK9.out.trans ((Kept.of_ext hw').trans (Kept.of_below hb)))
      obtain ⟨Wa, gWa⟩ : ∃ x, w'' = x := ⟨_, rfl⟩
      rw [gWa] at HSa HKa ⊢
      clear hs hb hw' gWa HS9 HK9
      simp only [Act.put, List.setIfInBounds_toArray, List.set_cons_zero, List.set_cons_succ]
      apply wpR_next 44 (some 98)
      · simp only [List.getElem?_toArray, List.getElem?_cons_succ, List.getElem?_cons_zero]; exact rfl
      · rfl
      · kernel_rfl
      · kernel_rfl
      · kernel_rfl
      · exact fun _ _ _ _ h => h
      apply Exists.intro
      apply And.intro
      · apply yr_run; rfl; intro w' hw'; go_simp; (try with_reducible rfl)
      simp only [Act.put, List.setIfInBounds_toArray, List.set_cons_zero, List.set_cons_succ]
      apply wpR_next 45 (some 99)
      · simp only [List.getElem?_toArray, List.getElem?_cons_succ, List.getElem?_cons_zero]; exact rfl
      · rfl
      · kernel_rfl
      · kernel_rfl
      · kernel_rfl
      · exact fun _ _ _ _ h => h
      apply Exists.intro
      apply And.intro
      · apply yr_run; rfl; intro w' hw'; go_simp; (try with_reducible rfl)
      simp only [Act.put, List.setIfInBounds_toArray, List.set_cons_zero, List.set_cons_succ]
      apply wpR_next 46 (some 100)
      · simp only [List.getElem?_toArray, List.getElem?_cons_succ, List.getElem?_cons_zero]; exact rfl
      · rfl
      · kernel_rfl
      · kernel_rfl
      · kernel_rfl
      · exact fun _ _ _ _ h => h
      apply Exists.intro
      apply And.intro
      · apply yr_run; rfl; intro w' hw'; go_simp; (try with_reducible rfl)
      simp only [Act.put, List.setIfInBounds_toArray, List.set_cons_zero, List.set_cons_succ]
      apply wpR_next 47 (some 101)
      · simp only [List.getElem?_toArray, List.getElem?_cons_succ, List.getElem?_cons_zero]; exact rfl
      · rfl
      · kernel_rfl
      · kernel_rfl
      · kernel_rfl
      · exact fun _ _ _ _ h => h
      apply Exists.intro
      apply And.intro
      · apply yr_run; rfl; intro w' hw'; go_simp; (try with_reducible rfl)
      simp only [Act.put, List.setIfInBounds_toArray, List.set_cons_zero, List.set_cons_succ]
      apply wpR_next 48 (some 102)
      · simp only [List.getElem?_toArray, List.getElem?_cons_succ, List.getElem?_cons_zero]; exact rfl
      · rfl
      · kernel_rfl
      · kernel_rfl
      · kernel_rfl
      · exact fun _ _ _ _ h => h
      apply Exists.intro
      apply And.intro
      · apply yr_run; rfl; intro w' hw'; go_simp; (try with_reducible rfl)
      simp only [Act.put, List.setIfInBounds_toArray, List.set_cons_zero, List.set_cons_succ]
      apply wpR_next 50 (some 104)
      · simp only [List.getElem?_toArray, List.getElem?_cons_succ, List.getElem?_cons_zero]; exact rfl
      · rfl
      · kernel_rfl
      · kernel_rfl
      · kernel_rfl
      · exact fun _ _ _ _ h => h
      apply Exists.intro
      apply And.intro
      · apply yr_run; rfl; intro w' hw'; go_simp; (try with_reducible rfl)
      simp only [Act.put, List.setIfInBounds_toArray, List.set_cons_zero, List.set_cons_succ]
      apply wpR_next 51 (some 105)
      · simp only [List.getElem?_toArray, List.getElem?_cons_succ, List.getElem?_cons_zero]; exact rfl
      · rfl
      · kernel_rfl
      · kernel_rfl
      · kernel_rfl
      · exact fun _ _ _ _ h => h
      apply Exists.intro
      apply And.intro
      · apply yr_run; rfl; intro w' hw'; go_simp; (try with_reducible rfl)
      simp only [Act.put, List.setIfInBounds_toArray, List.set_cons_zero, List.set_cons_succ]
      apply wpR_call 49 (some 103)
      · simp only [List.getElem?_toArray, List.getElem?_cons_succ, List.getElem?_cons_zero]; exact rfl
      · rfl
      · kernel_rfl
      · rfl
      · intro w'; go_simp; first | done | exact ⟨rfl, rfl⟩ | with_reducible rfl
      intro w' hw'
      have hs := HSa.out.below hw'
      have hn1 := next_any w' hs (by omega) (by simp)
      refine (show Calls Try.prog 21 #[.pointer (some ⟨g, 0, none⟩)] w' (fun e w'' => e = .returned (.int .i64 ((k : Int) + 1 + 1)) ∧ Below w'.heap.size w' w'') from hn1).mono ?_
      rintro e w'' ⟨rfl, hb⟩
      refine ⟨_, rfl, Kept.of_below hb, ?_⟩
      have HSb' := Lib.hid (hs.below hb)
      have HKb : RowKit.Hid (Kept (fun b => b = g) w7.drew w'') := Lib.hid (HKa.out.trans ((Kept.of_ext hw').trans (Kept.of_below hb)))
      obtain ⟨Wb, gWb⟩ : ∃ x, w'' = x := ⟨_, rfl⟩
      rw [gWb] at HSb' HKb ⊢
      clear hs hn1 hb hw' gWb HSa HKa
      simp only [Act.put, List.setIfInBounds_toArray, List.set_cons_zero, List.set_cons_succ]
      apply wpR_next 52 (some 106)
      · simp only [List.getElem?_toArray, List.getElem?_cons_succ, List.getElem?_cons_zero]; exact rfl
      · rfl
      · kernel_rfl
      · kernel_rfl
      · kernel_rfl
      · exact fun _ _ _ _ h => h
      apply Exists.intro
      apply And.intro
      · apply yr_run; rfl; intro w' hw'; go_simp; (try with_reducible rfl)
      simp only [Act.put, List.setIfInBounds_toArray, List.set_cons_zero, List.set_cons_succ]
      apply wpR_next 53 (some 107)
      · simp only [List.getElem?_toArray, List.getElem?_cons_succ, List.getElem?_cons_zero]; exact rfl
      · rfl
      · kernel_rfl
      · kernel_rfl
      · kernel_rfl
      · exact fun _ _ _ _ h => h
      apply Exists.intro
      apply And.intro
      · apply yr_run; rfl; intro w' hw'; go_simp; (try with_reducible rfl)
      simp only [Act.put, List.setIfInBounds_toArray, List.set_cons_zero, List.set_cons_succ]
      refine wpR_done (by kernel_rfl) ?_ _
      intro Wc hwc
      have HSc := Lib.hid (HSb'.out.below hwc)
      have HBc : RowKit.Hid (Below w.heap.size w Wc) := Lib.hid (HB8.out.trans (HS8.out.far1 (HKb.out.trans (Kept.of_ext hwc)) HB8.out.size))
      clear hwc HSb' HKb ldc ldd HQ HT1 HT2 hw2
      have HBl := Lib.hid (body_lo Wc HSc.out (by omega) (by simp) ((k : Int) + 1) (by omega))
      go_wp2_with (first | (go_at_call 19; refine HBl.out.mono ?_; rintro e Wd ⟨rfl, hbd⟩; have HSd := Lib.hid (HSc.out.below hbd); have HBd := Lib.hid (bel_bl HBc.out hbd); clear hbd))
      go_roundw
      case rel => exact ⟨k + 1, by omega, by go_num, Lib.hid ⟨_, _, _, _, HSd.out, HBd.out⟩⟩
      case measure => simp [intOf]; omega
    · have HB9 : RowKit.Hid (Below w.heap.size w wr) := Lib.hid (by obtain ⟨_, _, _, _, _, hB⟩ := HA.out; exact hB)
      have Hlt := Lib.hid hlt
      clear hlt HA
      by_cases h4 : k < n
      · have t1 : decide (k < n) = true := decide_eq_true h4
        have t2 : ¬ ((k : Int) < 100) := by have := Hlt.out; omega
        go_wp2
        go_ret
        exact ⟨rfl, HB9.out⟩
      · have t1 : decide (k < n) = false := decide_eq_false h4
        go_wp2
        go_ret
        exact ⟨rfl, HB9.out⟩
end Go.Proofs.Ythhkimjafgghiaa
