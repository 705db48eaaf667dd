/- Take, of one that is in the window and not held. -/
import Derived.Test.YthfngmlnmpbcpaaRv3
namespace Go.Proofs.Ythfngmlnmpbcpaa
open Go.RowKit Go.Maps
set_option linter.unusedSimpArgs false
set_option linter.unusedVariables false

def lenOf : Value → Nat
  | .slice _ n _ => n
  | _ => 0
/-- What Take does then. -/
def TakenR (B : Nat) (w : World) (g win got bm n : Nat) (HL : List HE) (s : Nat) (L : List Nat) (e : Ending) (w' : World) : Prop :=
  ∃ (sl : Sl) (D' : DataW Value) (A : Option Addr) (c : Nat), e = .returned (.tuple #[.slice A (drain got (insH (s, sl, L) HL)).2.1.length c, .int .i64 0]) ∧ (∀ b, b < w.heap.size → Off sl b) ∧
    RvIn B w' g win (drain got (insH (s, sl, L) HL)).1 bm (n + 1) D' (drain got (insH (s, sl, L) HL)).2.2 ∧ RdS w' w'.heap.size 1 A (drain got (insH (s, sl, L) HL)).2.1.length c (rowsV slc ((drain got (insH (s, sl, L) HL)).2.1.map (·.2.1))) ∧
    (∀ y ∈ (drain got (insH (s, sl, L) HL)).2.1, Lies w' y.2.1 y.2.2 ∧ Off y.2.1 g ∧ Off y.2.1 bm) ∧ (∀ a, A = some a → w.heap.size ≤ a.block) ∧ Kept (fun b => b = g ∨ b = bm) w w'
theorem TkIn.done {w wr : World} {B g win got bm n s : Nat} {HL HL' T : List HE} {sl : Sl} {L : List Nat} {A : Option Addr} {c : Nat} {D : DataW Value} (h : TkIn w wr B g win got bm (n + 1) (insH (s, sl, L) HL) (.slice A T.length c) T HL' D) (hno : ∀ e ∈ HL', e.1 ≠ got + T.length + 1) (ho : ∀ b, b < w.heap.size → Off sl b) :
    TakenR B w g win got bm n HL s L (.returned (.tuple #[.slice A T.length c, .int .i64 0])) wr := by
  have e := h.eq
  rw [drain_miss hno] at e
  simp only [List.append_nil] at e
  obtain ⟨A', c', e', hr⟩ := RdS.of_own h.own
  injection e' with e1 _ e3
  subst e1 e3
  refine ⟨sl, D, A, c, ?_, ho, ?_, ?_, ?_, fun a ha => ?_, h.kept⟩
  · rw [e]
  · rw [e]; exact h.rv
  · rw [e]; exact hr
  · rw [e]; exact h.told
  · subst ha; exact (h.own.lt a.block rfl).1
set_option maxRecDepth 100000 in
set_option maxHeartbeats 2000000 in
theorem take_yes {B : Nat} {g win got bm n : Nat} {D : DataW Value} {HL : List HE} (w : World) (h : RvIn B w g win got bm n D HL) (hg : got ≤ 100000) (hwin : win ≤ 64) (hB : B ≤ w.heap.size) (hnn : n ≤ 100000) (s : Nat) (hs : got < s) (hw : s ≤ got + win) (hnh : ∀ e ∈ HL, e.1 ≠ s) (A1 : Option Addr) (c1 : Nat) (L : List Nat) (hr : RdS w w.heap.size 1 A1 L.length c1 (rowsV f8 L)) (h256 : ∀ b ∈ L, b < 256) (h60 : L.length ≤ 60) :
    Calls Try.prog 28 #[.pointer (some ⟨g, 0, none⟩), .int .i64 (s : Int), .slice A1 L.length c1] w (TakenR B w g win got bm n HL s L) := by
  have hx : (Lit.int .i64 (s : Int)).wf = true := wf_i64 (by omega) (by omega)
  have hlk := h.look0 hx (fun e he e' => hnh e he (by omega))
  have t1 : decide ((s : Int) ≤ (got : Int)) = false := decide_eq_false (by omega)
  have t1' : ¬ s ≤ got := by omega
  have t2 : decide ((got : Int) + (win : Int) < (s : Int)) = false := decide_eq_false (by omega)
  have ld0 : ∀ w', Kept Nil_ w.drew w' → w'.cell? ⟨g, 0, none⟩ = some (.int .i64 (win : Int)) := fun w' hk => hk.nil_cell (h.drew.box.cell (i := 0) rfl)
  have ld1 : ∀ w', Kept Nil_ w.drew w' → w'.cell? ⟨g, 1, none⟩ = some (.int .i64 (got : Int)) := fun w' hk => hk.nil_cell (h.drew.box.cell (i := 1) rfl)
  have l2 := h.box.cell (i := 2) rfl
  have hwa : IntKind.i64.wrap ((got : Int) + (win : Int)) = (got : Int) + (win : Int) := IntWalk.i64_in _ (by omega)
  have H := Lib.hid h
  have Hr := Lib.hid hr
  have H256 := Lib.hid h256
  have Hnh := Lib.hid hnh
  have hcnt := h.count
  clear h hr h256 hnh
  go_enter Try.func28, Try.ntmps28
  go_upto_region 2 with fail
  refine wp_region_reg (Nil_) (by kernel_rfl) ?_
  apply wpR_next 0 (some 22)
  · simp only [List.getElem?_toArray, List.getElem?_cons_succ, List.getElem?_cons_zero]; exact rfl
  · rfl
  · kernel_rfl
  · kernel_rfl
  · kernel_rfl
  · exact fun _ _ _ _ h => h
  apply Exists.intro
  apply And.intro
  · apply yr_run; rfl; intro w' hw'; go_simp; (try with_reducible rfl)
  simp only [Act.put, List.setIfInBounds_toArray, List.set_cons_zero, List.set_cons_succ]
  apply wpR_next 1 (some 23)
  · simp only [List.getElem?_toArray, List.getElem?_cons_succ, List.getElem?_cons_zero]; exact rfl
  · rfl
  · kernel_rfl
  · kernel_rfl
  · kernel_rfl
  · exact fun _ _ _ _ h => h
  apply Exists.intro
  apply And.intro
  · apply yr_run; rfl; intro w' hw'; go_simp; (try with_reducible rfl)
  simp only [Act.put, List.setIfInBounds_toArray, List.set_cons_zero, List.set_cons_succ]
  apply wpR_next 2 (some 24)
  · simp only [List.getElem?_toArray, List.getElem?_cons_succ, List.getElem?_cons_zero]; exact rfl
  · rfl
  · kernel_rfl
  · kernel_rfl
  · kernel_rfl
  · exact fun _ _ _ _ h => h
  apply Exists.intro
  apply And.intro
  · apply yr_run; rfl; intro w' hw'; go_simp; (try with_reducible rfl)
  simp only [Act.put, List.setIfInBounds_toArray, List.set_cons_zero, List.set_cons_succ]
  apply wpR_next 3 (some 25)
  · simp only [List.getElem?_toArray, List.getElem?_cons_succ, List.getElem?_cons_zero]; exact rfl
  · rfl
  · kernel_rfl
  · kernel_rfl
  · kernel_rfl
  · exact fun _ _ _ _ h => h
  apply Exists.intro
  apply And.intro
  · apply yr_run; rfl; intro w' hw'; go_simp; (try with_reducible rfl)
  simp only [Act.put, List.setIfInBounds_toArray, List.set_cons_zero, List.set_cons_succ]
  apply wpR_next 4 (some 26)
  · simp only [List.getElem?_toArray, List.getElem?_cons_succ, List.getElem?_cons_zero]; exact rfl
  · rfl
  · kernel_rfl
  · kernel_rfl
  · kernel_rfl
  · exact fun _ _ _ _ h => h
  apply Exists.intro
  apply And.intro
  · apply yr_run; rfl; intro w' hw'; go_simp; (try with_reducible rfl)
  simp only [Act.put, List.setIfInBounds_toArray, List.set_cons_zero, List.set_cons_succ]
  apply wpR_next 5 (some 27)
  · simp only [List.getElem?_toArray, List.getElem?_cons_succ, List.getElem?_cons_zero]; exact rfl
  · rfl
  · kernel_rfl
  · kernel_rfl
  · kernel_rfl
  · exact fun _ _ _ _ h => h
  apply Exists.intro
  apply And.intro
  · apply yr_run; rfl; intro w' hw'; go_simp; (try with_reducible rfl)
  simp only [Act.put, List.setIfInBounds_toArray, List.set_cons_zero, List.set_cons_succ]
  apply wpR_next 6 (some 28)
  · simp only [List.getElem?_toArray, List.getElem?_cons_succ, List.getElem?_cons_zero]; exact rfl
  · rfl
  · kernel_rfl
  · kernel_rfl
  · kernel_rfl
  · exact fun _ _ _ _ h => h
  apply Exists.intro
  apply And.intro
  · apply yr_run; rfl; intro w' hw'; go_simp; (try with_reducible rfl)
  simp only [Act.put, List.setIfInBounds_toArray, List.set_cons_zero, List.set_cons_succ]
  apply wpR_next 7 (some 29)
  · simp only [List.getElem?_toArray, List.getElem?_cons_succ, List.getElem?_cons_zero]; exact rfl
  · rfl
  · kernel_rfl
  · kernel_rfl
  · kernel_rfl
  · exact fun _ _ _ _ h => h
  apply Exists.intro
  apply And.intro
  · apply yr_run; rfl; intro w' hw'; go_simp; (try with_reducible rfl)
  simp only [Act.put, List.setIfInBounds_toArray, List.set_cons_zero, List.set_cons_succ]
  apply wpR_next 8 (some 30)
  · simp only [List.getElem?_toArray, List.getElem?_cons_succ, List.getElem?_cons_zero]; exact rfl
  · rfl
  · kernel_rfl
  · kernel_rfl
  · kernel_rfl
  · exact fun _ _ _ _ h => h
  apply Exists.intro
  apply And.intro
  · apply yr_run; rfl; intro w' hw'; go_simp; (try with_reducible rfl)
  simp only [Act.put, List.setIfInBounds_toArray, List.set_cons_zero, List.set_cons_succ]
  apply wpR_next 9 (some 31)
  · simp only [List.getElem?_toArray, List.getElem?_cons_succ, List.getElem?_cons_zero]; exact rfl
  · rfl
  · kernel_rfl
  · kernel_rfl
  · kernel_rfl
  · exact fun _ _ _ _ h => h
  apply Exists.intro
  apply And.intro
  · apply yr_run; rfl; intro w' hw'; go_simp; (try with_reducible rfl)
  simp only [Act.put, List.setIfInBounds_toArray, List.set_cons_zero, List.set_cons_succ]
  apply wpR_next 10 (some 32)
  · simp only [List.getElem?_toArray, List.getElem?_cons_succ, List.getElem?_cons_zero]; exact rfl
  · rfl
  · kernel_rfl
  · kernel_rfl
  · kernel_rfl
  · exact fun _ _ _ _ h => h
  apply Exists.intro
  apply And.intro
  · apply yr_run; rfl; intro w' hw'; go_simp; (try with_reducible rfl)
  simp only [Act.put, List.setIfInBounds_toArray, List.set_cons_zero, List.set_cons_succ]
  apply wpR_next 11 (some 33)
  · simp only [List.getElem?_toArray, List.getElem?_cons_succ, List.getElem?_cons_zero]; exact rfl
  · rfl
  · kernel_rfl
  · kernel_rfl
  · kernel_rfl
  · exact fun _ _ _ _ h => h
  apply Exists.intro
  apply And.intro
  · apply yr_run; rfl; intro w' hw'; go_simp; (try with_reducible rfl)
  simp only [Act.put, List.setIfInBounds_toArray, List.set_cons_zero, List.set_cons_succ]
  apply wpR_next 12 (some 34)
  · simp only [List.getElem?_toArray, List.getElem?_cons_succ, List.getElem?_cons_zero]; exact rfl
  · rfl
  · kernel_rfl
  · kernel_rfl
  · kernel_rfl
  · exact fun _ _ _ _ h => h
  apply Exists.intro
  apply And.intro
  · apply yr_run; rfl; intro w' hw'; go_simp; (try with_reducible rfl)
  simp only [Act.put, List.setIfInBounds_toArray, List.set_cons_zero, List.set_cons_succ]
  apply wpR_next 13 (some 35)
  · simp only [List.getElem?_toArray, List.getElem?_cons_succ, List.getElem?_cons_zero]; exact rfl
  · rfl
  · kernel_rfl
  · kernel_rfl
  · kernel_rfl
  · exact fun _ _ _ _ h => h
  apply Exists.intro
  apply And.intro
  · apply yr_run; rfl; intro w' hw'; go_simp; (try with_reducible rfl)
  simp only [Act.put, List.setIfInBounds_toArray, List.set_cons_zero, List.set_cons_succ]
  apply wpR_next 14 (some 36)
  · simp only [List.getElem?_toArray, List.getElem?_cons_succ, List.getElem?_cons_zero]; exact rfl
  · rfl
  · kernel_rfl
  · kernel_rfl
  · kernel_rfl
  · exact fun _ _ _ _ h => h
  apply Exists.intro
  apply And.intro
  · apply yr_run; rfl; intro w' hw'; go_simp; (try with_reducible rfl)
  simp only [Act.put, List.setIfInBounds_toArray, List.set_cons_zero, List.set_cons_succ]
  apply wpR_next 15 (some 37)
  · simp only [List.getElem?_toArray, List.getElem?_cons_succ, List.getElem?_cons_zero]; exact rfl
  · rfl
  · kernel_rfl
  · kernel_rfl
  · kernel_rfl
  · exact fun _ _ _ _ h => h
  apply Exists.intro
  apply And.intro
  · apply yr_run; rfl; intro w' hw'; go_simp; (try with_reducible rfl)
  simp only [Act.put, List.setIfInBounds_toArray, List.set_cons_zero, List.set_cons_succ]
  apply wpR_next 16 (some 38)
  · simp only [List.getElem?_toArray, List.getElem?_cons_succ, List.getElem?_cons_zero]; exact rfl
  · rfl
  · kernel_rfl
  · kernel_rfl
  · kernel_rfl
  · exact fun _ _ _ _ h => h
  apply Exists.intro
  apply And.intro
  · apply yr_run; rfl; intro w' hw'; go_simp; (try with_reducible rfl)
  simp only [Act.put, List.setIfInBounds_toArray, List.set_cons_zero, List.set_cons_succ]
  apply wpR_next 17 (some 39)
  · simp only [List.getElem?_toArray, List.getElem?_cons_succ, List.getElem?_cons_zero]; exact rfl
  · rfl
  · kernel_rfl
  · kernel_rfl
  · kernel_rfl
  · exact fun _ _ _ _ h => h
  apply Exists.intro
  apply And.intro
  · apply yr_run; rfl; intro w' hw'; go_simp; (try with_reducible rfl)
  simp only [Act.put, List.setIfInBounds_toArray, List.set_cons_zero, List.set_cons_succ]
  apply wpR_next 18 (some 40)
  · simp only [List.getElem?_toArray, List.getElem?_cons_succ, List.getElem?_cons_zero]; exact rfl
  · rfl
  · kernel_rfl
  · kernel_rfl
  · kernel_rfl
  · exact fun _ _ _ _ h => h
  apply Exists.intro
  apply And.intro
  · apply yr_run; rfl; intro w' hw'; go_simp; (try with_reducible rfl)
  simp only [Act.put, List.setIfInBounds_toArray, List.set_cons_zero, List.set_cons_succ]
  apply wpR_next 19 (some 41)
  · simp only [List.getElem?_toArray, List.getElem?_cons_succ, List.getElem?_cons_zero]; exact rfl
  · rfl
  · kernel_rfl
  · kernel_rfl
  · kernel_rfl
  · exact fun _ _ _ _ h => h
  apply Exists.intro
  apply And.intro
  · apply yr_run; rfl; intro w' hw'; go_simp; (try with_reducible rfl)
  simp only [Act.put, List.setIfInBounds_toArray, List.set_cons_zero, List.set_cons_succ]
  apply wpR_next 20 (some 42)
  · simp only [List.getElem?_toArray, List.getElem?_cons_succ, List.getElem?_cons_zero]; exact rfl
  · rfl
  · kernel_rfl
  · kernel_rfl
  · kernel_rfl
  · exact fun _ _ _ _ h => h
  apply Exists.intro
  apply And.intro
  · apply yr_run; rfl; intro w' hw'; go_simp; (try with_reducible rfl)
  simp only [Act.put, List.setIfInBounds_toArray, List.set_cons_zero, List.set_cons_succ]
  apply wpR_next 21 (some 43)
  · simp only [List.getElem?_toArray, List.getElem?_cons_succ, List.getElem?_cons_zero]; exact rfl
  · rfl
  · kernel_rfl
  · kernel_rfl
  · kernel_rfl
  · exact fun _ _ _ _ h => h
  apply Exists.intro
  apply And.intro
  · apply yr_run; rfl; intro w' hw'; go_simp; (try with_reducible rfl)
  simp only [Act.put, List.setIfInBounds_toArray, List.set_cons_zero, List.set_cons_succ]
  refine wpR_done (by kernel_rfl) ?_ _
  intro W1 hw1
  have HX1 : RowKit.Hid (Ext w W1) := Lib.hid (Ext.trans ((Below.refl _ _).drew) hw1)
  have H1 := Lib.hid (H.out.below HX1.out)
  have Hr1 := Lib.hid (Hr.out.bl HX1.out)
  clear hw1 ld0 ld1 l2 hlk hwa t2 H Hr
  go_upto_region 4 with fail
  clear t1 t1'
  have H2 := Lib.hid H1.out.drew
  have Hr2 := Lib.hid Hr1.out.dr
  have ld2 : ∀ w', Kept (fun b => b = bm) W1.drew w' → w'.cell? ⟨g, 2, none⟩ = some (.map (some bm)) := fun w' hk => hk.cell (H2.out.box.cell (i := 2) rfl) (fun e => H2.out.ne e.symm)
  clear H1 Hr1
  refine wp_region_tail (fun b => b = bm) [7] (by kernel_rfl) ?_
  apply wpT_next 0 (some 44) (by kernel_rfl)
  · simp only [List.getElem?_toArray, List.getElem?_cons_succ, List.getElem?_cons_zero]; exact rfl
  · rfl
  · kernel_rfl
  · kernel_rfl
  · kernel_rfl
  · exact fun _ _ _ _ h => h
  apply Exists.intro
  apply And.intro
  · apply yr_run; rfl; intro w' hw'; go_simp; (try with_reducible rfl)
  simp only [Act.put, List.setIfInBounds_toArray, List.set_cons_zero, List.set_cons_succ]
  apply wpT_next 1 (some 45) (by kernel_rfl)
  · simp only [List.getElem?_toArray, List.getElem?_cons_succ, List.getElem?_cons_zero]; exact rfl
  · rfl
  · kernel_rfl
  · kernel_rfl
  · kernel_rfl
  · exact fun _ _ _ _ h => h
  apply Exists.intro
  apply And.intro
  · apply yr_run; rfl; intro w' hw'; go_simp; (try with_reducible rfl)
  simp only [Act.put, List.setIfInBounds_toArray, List.set_cons_zero, List.set_cons_succ]
  apply wpT_next 2 (some 46) (by kernel_rfl)
  · simp only [List.getElem?_toArray, List.getElem?_cons_succ, List.getElem?_cons_zero]; exact rfl
  · rfl
  · kernel_rfl
  · kernel_rfl
  · kernel_rfl
  · exact fun _ _ _ _ h => h
  apply Exists.intro
  apply And.intro
  · apply yr_run; rfl; intro w' hw'; go_simp; (try with_reducible rfl)
  simp only [Act.put, List.setIfInBounds_toArray, List.set_cons_zero, List.set_cons_succ]
  apply wpT_next 3 (some 47) (by kernel_rfl)
  · simp only [List.getElem?_toArray, List.getElem?_cons_succ, List.getElem?_cons_zero]; exact rfl
  · rfl
  · kernel_rfl
  · kernel_rfl
  · kernel_rfl
  · exact fun _ _ _ _ h => h
  apply Exists.intro
  apply And.intro
  · apply yr_run; rfl; intro w' hw'; go_simp; (try with_reducible rfl)
  simp only [Act.put, List.setIfInBounds_toArray, List.set_cons_zero, List.set_cons_succ]
  apply wpT_next 4 (some 48) (by kernel_rfl)
  · simp only [List.getElem?_toArray, List.getElem?_cons_succ, List.getElem?_cons_zero]; exact rfl
  · rfl
  · kernel_rfl
  · kernel_rfl
  · kernel_rfl
  · exact fun _ _ _ _ h => h
  apply Exists.intro
  apply And.intro
  · apply yr_run; rfl; intro w' hw'; go_simp; (try with_reducible rfl)
  simp only [Act.put, List.setIfInBounds_toArray, List.set_cons_zero, List.set_cons_succ]
  apply wpT_next 5 (some 49) (by kernel_rfl)
  · simp only [List.getElem?_toArray, List.getElem?_cons_succ, List.getElem?_cons_zero]; exact rfl
  · rfl
  · kernel_rfl
  · kernel_rfl
  · kernel_rfl
  · exact fun _ _ _ _ h => h
  apply Exists.intro
  apply And.intro
  · apply yr_run; rfl; intro w' hw'; go_simp; (try with_reducible rfl)
  simp only [Act.put, List.setIfInBounds_toArray, List.set_cons_zero, List.set_cons_succ]
  apply wpT_call 6 (some 50)
  · simp only [List.getElem?_toArray, List.getElem?_cons_succ, List.getElem?_cons_zero]; exact rfl
  · rfl
  · kernel_rfl
  · rfl
  · intro w'; go_simp; first | done | exact ⟨rfl, rfl⟩ | with_reducible rfl
  intro w' hw'
  refine (clone_gen A1 c1 L w' (Hr2.out.bl hw') (by omega)).mono ?_
  rintro e w'' ⟨Ac, cc, rfl, hrc, hnc, -, hb⟩
  refine ⟨_, rfl, Kept.of_below hb, ?_⟩
  have HXc : RowKit.Hid (Ext W1.drew w'') := Lib.hid (Ext.trans hw' hb)
  have HLi : RowKit.Hid (Lies w'' (Ac, L.length, cc) L) := Lib.hid ⟨rfl, hrc, H256.out, h60⟩
  have HNc : RowKit.Hid (∀ a', Ac = some a' → 0 < L.length → W1.drew.heap.size ≤ a'.block) := Lib.hid (fun a' ha hn => Nat.le_trans hw'.size (hnc a' ha hn))
  obtain ⟨W2, gW2⟩ : ∃ x, w'' = x := ⟨_, rfl⟩
  rw [gW2] at HXc HLi ⊢
  clear hw' hb hrc hnc gW2
  simp only [Act.put, List.setIfInBounds_toArray, List.set_cons_zero, List.set_cons_succ]
  apply wpT_last 7
  · simp only [List.getElem?_toArray, List.getElem?_cons_succ, List.getElem?_cons_zero]; exact rfl
  · rfl
  · kernel_rfl
  · rfl
  · decide
  intro w' hw'
  obtain ⟨w3, hrun, hm, hk⟩ := (H2.out.map.below (Ext.trans HXc.out hw')).put Try.underlying3 Try.underlying67 (by unfold maxLen; omega) hx (.slice Ac L.length cc)
  refine ⟨w3, exec_mapUpdate (by rfl) (by rfl) (by rfl) (by rfl) hrun, ?_⟩
  have hsz : W1.drew.heap.size = W1.heap.size := rfl
  have HNo : RowKit.Hid (∀ b, b < w.heap.size → Off ((Ac, L.length, cc) : Sl) b) := Lib.hid (fun b hb a ha h0 e => by have h1 := HNc.out a ha h0; have h2 := HX1.out.size; omega)
  have HS : RowKit.Hid (RvIn B w3 g win got bm (n + 1) (D.put (.int .i64 (s : Int)) (.held (.slice Ac L.length cc))) (insH (s, (Ac, L.length, cc), L) HL)) := Lib.hid (RvIn.put (H2.out.below (Ext.trans HXc.out hw')) hs hw Hnh.out (HLi.out.below hw') ⟨fun a ha h0 e => by have h1 := HNc.out a ha h0; have h2 := H2.out.box.lt; omega, fun a ha h0 e => by have h1 := HNc.out a ha h0; have h2 := H2.out.map.lt; omega⟩ hm hk)
  have HK : RowKit.Hid (Kept (fun b => b = g ∨ b = bm) w w3) := Lib.hid ((Kept.of_ext (Ext.trans (Ext.trans HX1.out ((Below.refl _ _).drew)) (Ext.trans HXc.out hw'))).trans (hk.wider (fun _ _ e => Or.inr e)))
  obtain ⟨W3, gW3⟩ : ∃ x, w3 = x := ⟨_, rfl⟩
  rw [gW3] at HS HK ⊢
  clear hw' hrun hm hk hsz gW3 HXc HLi
  try simp only [Act.put, List.setIfInBounds_toArray, List.set_cons_zero, List.set_cons_succ]
  refine wpT_done (by kernel_rfl) ?_ _
  intro W4 hw4
  have HT0 : RowKit.Hid (TkIn w W4 B g win got bm (n + 1) (insH (s, (Ac, L.length, cc), L) HL) (.slice none 0 0) [] (insH (s, (Ac, L.length, cc), L) HL) (D.put (.int .i64 (s : Int)) (.held (.slice Ac L.length cc)))) := Lib.hid ⟨HS.out.below hw4, rfl, World.ownsRow_nil _ _ _ _, fun e he => (by cases he), fun b hb => (by cases hb), HK.out.trans (Kept.of_ext hw4), by simp⟩
  have hcn2 : (insH (s, (Ac, L.length, cc), L) HL).length ≤ 65 := by
    have := HS.out.count
    omega
  clear hw4 HS HK ld2
  obtain ⟨HL0, gHL0⟩ : ∃ z, insH (s, (Ac, L.length, cc), L) HL = z := ⟨_, rfl⟩
  rw [gHL0] at HT0 hcn2
  have GHL := Lib.hid gHL0
  clear gHL0
  go_wp2
  go_loopw [10] (fun st wr => ∃ (T HL' : List HE) (D' : DataW Value), RowKit.Hid (TkIn w wr B g win got bm (n + 1) HL0 st T HL' D')) (fun st _ => HL0.length - lenOf st)
  case atStart => exact ⟨[], HL0, _, HT0⟩
  case round =>
    clear HT0
    obtain ⟨T, HL', D', HT⟩ := hrel
    obtain ⟨A, c, rfl, -⟩ := RdS.of_own HT.out.own
    have hmany := HT.out.many
    obtain ⟨G, gG⟩ : ∃ G, got + T.length = G := ⟨_, rfl⟩
    have GG := Lib.hid gG
    have hrv := HT.out.rv
    rw [gG] at hrv
    have HRv := Lib.hid hrv
    have hG : G ≤ 200000 := by omega
    have hwG : IntKind.i64.wrap ((G : Int) + 1) = (G : Int) + 1 := IntWalk.i64_in _ (by omega)
    have hxG : (Lit.int .i64 ((G : Int) + 1)).wf = true := wf_i64 (by omega) (by omega)
    have ld1 : ∀ w', Kept Nil_ wr.drew w' → w'.cell? ⟨g, 1, none⟩ = some (.int .i64 (G : Int)) := fun w' hk => hk.nil_cell (HRv.out.drew.box.cell (i := 1) rfl)
    have ld2 : ∀ w', Kept Nil_ wr.drew w' → w'.cell? ⟨g, 2, none⟩ = some (.map (some bm)) := fun w' hk => hk.nil_cell (HRv.out.drew.box.cell (i := 2) rfl)
    have KB : ∀ {u v : World}, Kept Nil_ u v → Below u.heap.size u v := fun h => h.below (Nat.le_refl _) (fun _ _ h => h)
    rcases next_or hrv.rise hrv.gt with ⟨y, r, rfl, he⟩ | hno
    · have HLk : RowKit.Hid (∀ w', Kept Nil_ wr.drew w' → (Instr.lookup 67 (.map (some bm)) (.int .i64 ((G : Int) + 1)) true).run Try.prog w' = .ok (.tuple #[.slice y.2.1.1 y.2.1.2.1 y.2.1.2.2, .bool true]) w') := Lib.hid (fun w' hk => (HRv.out.drew.below (KB hk)).look1 hxG (by simp) (by omega))
      obtain ⟨yA, gyA⟩ : ∃ z, y.2.1.1 = z := ⟨_, rfl⟩
      obtain ⟨yn, gyn⟩ : ∃ z, y.2.1.2.1 = z := ⟨_, rfl⟩
      obtain ⟨yc, gyc⟩ : ∃ z, y.2.1.2.2 = z := ⟨_, rfl⟩
      rw [gyA, gyn, gyc] at HLk
      have GyA := Lib.hid gyA
      have Gyn := Lib.hid gyn
      have Gyc := Lib.hid gyc
      clear gyA gyn gyc hrv KB gG
      go_upto_region 6 with fail
      refine wp_region_reg (Nil_) (by kernel_rfl) ?_
      apply wpR_next 0 (some 52)
      · simp only [List.getElem?_toArray, List.getElem?_cons_succ, List.getElem?_cons_zero]; exact rfl
      · rfl
      · kernel_rfl
      · kernel_rfl
      · kernel_rfl
      · exact fun _ _ _ _ h => h
      apply Exists.intro
      apply And.intro
      · apply yr_run; rfl; intro w' hw'; go_simp; (try with_reducible rfl)
      simp only [Act.put, List.setIfInBounds_toArray, List.set_cons_zero, List.set_cons_succ]
      apply wpR_next 1 (some 53)
      · simp only [List.getElem?_toArray, List.getElem?_cons_succ, List.getElem?_cons_zero]; exact rfl
      · rfl
      · kernel_rfl
      · kernel_rfl
      · kernel_rfl
      · exact fun _ _ _ _ h => h
      apply Exists.intro
      apply And.intro
      · apply yr_run; rfl; intro w' hw'; go_simp; (try with_reducible rfl)
      simp only [Act.put, List.setIfInBounds_toArray, List.set_cons_zero, List.set_cons_succ]
      apply wpR_next 2 (some 54)
      · simp only [List.getElem?_toArray, List.getElem?_cons_succ, List.getElem?_cons_zero]; exact rfl
      · rfl
      · kernel_rfl
      · kernel_rfl
      · kernel_rfl
      · exact fun _ _ _ _ h => h
      apply Exists.intro
      apply And.intro
      · apply yr_run; rfl; intro w' hw'; go_simp; (try with_reducible rfl)
      simp only [Act.put, List.setIfInBounds_toArray, List.set_cons_zero, List.set_cons_succ]
      apply wpR_next 3 (some 55)
      · simp only [List.getElem?_toArray, List.getElem?_cons_succ, List.getElem?_cons_zero]; exact rfl
      · rfl
      · kernel_rfl
      · kernel_rfl
      · kernel_rfl
      · exact fun _ _ _ _ h => h
      apply Exists.intro
      apply And.intro
      · apply yr_run; rfl; intro w' hw'; go_simp; (try with_reducible rfl)
      simp only [Act.put, List.setIfInBounds_toArray, List.set_cons_zero, List.set_cons_succ]
      apply wpR_next 4 (some 56)
      · simp only [List.getElem?_toArray, List.getElem?_cons_succ, List.getElem?_cons_zero]; exact rfl
      · rfl
      · kernel_rfl
      · kernel_rfl
      · kernel_rfl
      · exact fun _ _ _ _ h => h
      apply Exists.intro
      apply And.intro
      · apply yr_run; rfl; intro w' hw'; go_simp; (try with_reducible rfl)
      simp only [Act.put, List.setIfInBounds_toArray, List.set_cons_zero, List.set_cons_succ]
      apply wpR_next 5 (some 57)
      · simp only [List.getElem?_toArray, List.getElem?_cons_succ, List.getElem?_cons_zero]; exact rfl
      · rfl
      · kernel_rfl
      · kernel_rfl
      · kernel_rfl
      · exact fun _ _ _ _ h => h
      apply Exists.intro
      apply And.intro
      · apply yr_run; rfl; intro w' hw'; go_simp; (try with_reducible rfl)
      simp only [Act.put, List.setIfInBounds_toArray, List.set_cons_zero, List.set_cons_succ]
      apply wpR_next 6 (some 58)
      · simp only [List.getElem?_toArray, List.getElem?_cons_succ, List.getElem?_cons_zero]; exact rfl
      · rfl
      · kernel_rfl
      · kernel_rfl
      · kernel_rfl
      · exact fun _ _ _ _ h => h
      apply Exists.intro
      apply And.intro
      · apply yr_run; rfl; intro w' hw'; go_simp; (try with_reducible rfl)
      simp only [Act.put, List.setIfInBounds_toArray, List.set_cons_zero, List.set_cons_succ]
      apply wpR_next 7 (some 59)
      · simp only [List.getElem?_toArray, List.getElem?_cons_succ, List.getElem?_cons_zero]; exact rfl
      · rfl
      · kernel_rfl
      · kernel_rfl
      · kernel_rfl
      · exact fun _ _ _ _ h => h
      apply Exists.intro
      apply And.intro
      · apply yr_run; rfl; intro w' hw'; go_simp; (try with_reducible rfl)
      simp only [Act.put, List.setIfInBounds_toArray, List.set_cons_zero, List.set_cons_succ]
      apply wpR_next 8 (some 60)
      · simp only [List.getElem?_toArray, List.getElem?_cons_succ, List.getElem?_cons_zero]; exact rfl
      · rfl
      · kernel_rfl
      · kernel_rfl
      · kernel_rfl
      · exact fun _ _ _ _ h => h
      apply Exists.intro
      apply And.intro
      · apply yr_run; rfl; intro w' hw'; go_simp; (try with_reducible rfl)
      simp only [Act.put, List.setIfInBounds_toArray, List.set_cons_zero, List.set_cons_succ]
      apply wpR_next 9 (some 61)
      · simp only [List.getElem?_toArray, List.getElem?_cons_succ, List.getElem?_cons_zero]; exact rfl
      · rfl
      · kernel_rfl
      · kernel_rfl
      · kernel_rfl
      · exact fun _ _ _ _ h => h
      apply Exists.intro
      apply And.intro
      · exact yr_run (by rfl) (fun w' h => exec_lookup (by rfl) (by rfl) (by rfl) (HLk.out w' h))
      simp only [Act.put, List.setIfInBounds_toArray, List.set_cons_zero, List.set_cons_succ]
      apply wpR_next 10 (some 51)
      · simp only [List.getElem?_toArray, List.getElem?_cons_succ, List.getElem?_cons_zero]; exact rfl
      · rfl
      · kernel_rfl
      · kernel_rfl
      · kernel_rfl
      · exact fun _ _ _ _ h => h
      apply Exists.intro
      apply And.intro
      · apply yr_run; rfl; intro w' hw'; go_simp; (try with_reducible rfl)
      simp only [Act.put, List.setIfInBounds_toArray, List.set_cons_zero, List.set_cons_succ]
      apply wpR_next 11 (some 62)
      · simp only [List.getElem?_toArray, List.getElem?_cons_succ, List.getElem?_cons_zero]; exact rfl
      · rfl
      · kernel_rfl
      · kernel_rfl
      · kernel_rfl
      · exact fun _ _ _ _ h => h
      apply Exists.intro
      apply And.intro
      · apply yr_run; rfl; intro w' hw'; go_simp; (try with_reducible rfl)
      simp only [Act.put, List.setIfInBounds_toArray, List.set_cons_zero, List.set_cons_succ]
      apply wpR_next 12 (some 63)
      · simp only [List.getElem?_toArray, List.getElem?_cons_succ, List.getElem?_cons_zero]; exact rfl
      · rfl
      · kernel_rfl
      · kernel_rfl
      · kernel_rfl
      · exact fun _ _ _ _ h => h
      apply Exists.intro
      apply And.intro
      · apply yr_run; rfl; intro w' hw'; go_simp; (try with_reducible rfl)
      simp only [Act.put, List.setIfInBounds_toArray, List.set_cons_zero, List.set_cons_succ]
      apply wpR_next 13 (some 11)
      · simp only [List.getElem?_toArray, List.getElem?_cons_succ, List.getElem?_cons_zero]; exact rfl
      · rfl
      · kernel_rfl
      · kernel_rfl
      · kernel_rfl
      · exact fun _ _ _ _ h => h
      apply Exists.intro
      apply And.intro
      · apply yr_run; rfl; intro w' hw'; go_simp; (try with_reducible rfl)
      simp only [Act.put, List.setIfInBounds_toArray, List.set_cons_zero, List.set_cons_succ]
      apply wpR_next 14 (some 12)
      · simp only [List.getElem?_toArray, List.getElem?_cons_succ, List.getElem?_cons_zero]; exact rfl
      · rfl
      · kernel_rfl
      · kernel_rfl
      · kernel_rfl
      · exact fun _ _ _ _ h => h
      apply Exists.intro
      apply And.intro
      · apply yr_run; rfl; intro w' hw'; go_simp; (try with_reducible rfl)
      simp only [Act.put, List.setIfInBounds_toArray, List.set_cons_zero, List.set_cons_succ]
      refine wpR_done (by kernel_rfl) ?_ _
      intro Wa hwa
      have HXa : RowKit.Hid (Ext wr Wa) := Lib.hid (Ext.trans ((Below.refl _ _).drew) hwa)
      have HRa := Lib.hid (HRv.out.below HXa.out)
      have hc0 := HRa.out.box.cell (i := 1) rfl
      have hf0 := HRa.out.box.free 1
      clear hwa ld1 ld2 HLk
      go_upto_region 10 with fail
      have HBb : RowKit.Hid (Whole (Wa.setCell ⟨g, 1, none⟩ (.int .i64 ((G : Int) + 1))) g 69 [.int .i64 (win : Int), .int .i64 ((G : Int) + 1), .map (some bm)]) := Lib.hid (HRa.out.box.set_ 1 _)
      have HMb : RowKit.Hid (MapIn (Wa.setCell ⟨g, 1, none⟩ (.int .i64 ((G : Int) + 1))) Try.prog 3 bm (n + 1) D') := Lib.hid (HRa.out.map.kept ((Kept.refl (fun b => b = g) Wa).setCell (p := ⟨g, 1, none⟩) (.inl rfl) _) HRa.out.ne)
      have HKb : RowKit.Hid (Kept (fun b => b = g ∨ b = bm) wr (Wa.setCell ⟨g, 1, none⟩ (.int .i64 ((G : Int) + 1)))) := Lib.hid ((Kept.of_ext HXa.out).setCell (p := ⟨g, 1, none⟩) (.inl (Or.inl rfl)) _)
      obtain ⟨Wb, gWb⟩ : ∃ z, Wa.setCell ⟨g, 1, none⟩ (.int .i64 ((G : Int) + 1)) = z := ⟨_, rfl⟩
      rw [gWb] at HBb HMb HKb
      rw [gWb]
      have Hne := Lib.hid HRa.out.ne
      clear gWb hc0 hf0 HRa HXa HRv
      have ldb1 : ∀ w', Kept (fun b => b = bm) Wb.drew w' → w'.cell? ⟨g, 1, none⟩ = some (.int .i64 ((G : Int) + 1)) := fun w' hk => hk.cell (HBb.out.drew.cell (i := 1) rfl) (fun e => Hne.out e.symm)
      have ldb2 : ∀ w', Kept (fun b => b = bm) Wb.drew w' → w'.cell? ⟨g, 2, none⟩ = some (.map (some bm)) := fun w' hk => hk.cell (HBb.out.drew.cell (i := 2) rfl) (fun e => Hne.out e.symm)
      refine wp_region_reg (fun b => b = bm) (by kernel_rfl) ?_
      apply wpR_next 0 (some 74)
      · simp only [List.getElem?_toArray, List.getElem?_cons_succ, List.getElem?_cons_zero]; exact rfl
      · rfl
      · kernel_rfl
      · kernel_rfl
      · kernel_rfl
      · exact fun _ _ _ _ h => h
      apply Exists.intro
      apply And.intro
      · apply yr_run; rfl; intro w' hw'; go_simp; (try with_reducible rfl)
      simp only [Act.put, List.setIfInBounds_toArray, List.set_cons_zero, List.set_cons_succ]
      apply wpR_next 1 (some 75)
      · simp only [List.getElem?_toArray, List.getElem?_cons_succ, List.getElem?_cons_zero]; exact rfl
      · rfl
      · kernel_rfl
      · kernel_rfl
      · kernel_rfl
      · exact fun _ _ _ _ h => h
      apply Exists.intro
      apply And.intro
      · apply yr_run; rfl; intro w' hw'; go_simp; (try with_reducible rfl)
      simp only [Act.put, List.setIfInBounds_toArray, List.set_cons_zero, List.set_cons_succ]
      apply wpR_next 2 (some 76)
      · simp only [List.getElem?_toArray, List.getElem?_cons_succ, List.getElem?_cons_zero]; exact rfl
      · rfl
      · kernel_rfl
      · kernel_rfl
      · kernel_rfl
      · exact fun _ _ _ _ h => h
      apply Exists.intro
      apply And.intro
      · apply yr_run; rfl; intro w' hw'; go_simp; (try with_reducible rfl)
      simp only [Act.put, List.setIfInBounds_toArray, List.set_cons_zero, List.set_cons_succ]
      apply wpR_next 3 (some 77)
      · simp only [List.getElem?_toArray, List.getElem?_cons_succ, List.getElem?_cons_zero]; exact rfl
      · rfl
      · kernel_rfl
      · kernel_rfl
      · kernel_rfl
      · exact fun _ _ _ _ h => h
      apply Exists.intro
      apply And.intro
      · apply yr_run; rfl; intro w' hw'; go_simp; (try with_reducible rfl)
      simp only [Act.put, List.setIfInBounds_toArray, List.set_cons_zero, List.set_cons_succ]
      apply wpR_next 4 (some 78)
      · simp only [List.getElem?_toArray, List.getElem?_cons_succ, List.getElem?_cons_zero]; exact rfl
      · rfl
      · kernel_rfl
      · kernel_rfl
      · kernel_rfl
      · exact fun _ _ _ _ h => h
      apply Exists.intro
      apply And.intro
      · apply yr_run; rfl; intro w' hw'; go_simp; (try with_reducible rfl)
      simp only [Act.put, List.setIfInBounds_toArray, List.set_cons_zero, List.set_cons_succ]
      apply wpR_next 5 (some 79)
      · simp only [List.getElem?_toArray, List.getElem?_cons_succ, List.getElem?_cons_zero]; exact rfl
      · rfl
      · kernel_rfl
      · kernel_rfl
      · kernel_rfl
      · exact fun _ _ _ _ h => h
      apply Exists.intro
      apply And.intro
      · apply yr_run; rfl; intro w' hw'; go_simp; (try with_reducible rfl)
      simp only [Act.put, List.setIfInBounds_toArray, List.set_cons_zero, List.set_cons_succ]
      apply wpR_next 6 (some 80)
      · simp only [List.getElem?_toArray, List.getElem?_cons_succ, List.getElem?_cons_zero]; exact rfl
      · rfl
      · kernel_rfl
      · kernel_rfl
      · kernel_rfl
      · exact fun _ _ _ _ h => h
      apply Exists.intro
      apply And.intro
      · apply yr_run; rfl; intro w' hw'; go_simp; (try with_reducible rfl)
      simp only [Act.put, List.setIfInBounds_toArray, List.set_cons_zero, List.set_cons_succ]
      apply wpR_next 7 (some 81)
      · simp only [List.getElem?_toArray, List.getElem?_cons_succ, List.getElem?_cons_zero]; exact rfl
      · rfl
      · kernel_rfl
      · kernel_rfl
      · kernel_rfl
      · exact fun _ _ _ _ h => h
      apply Exists.intro
      apply And.intro
      · apply yr_run; rfl; intro w' hw'; go_simp; (try with_reducible rfl)
      simp only [Act.put, List.setIfInBounds_toArray, List.set_cons_zero, List.set_cons_succ]
      apply wpR_run 8 none
      · simp only [List.getElem?_toArray, List.getElem?_cons_succ, List.getElem?_cons_zero]; exact rfl
      · rfl
      · kernel_rfl
      · rfl
      intro w' hw'
      obtain ⟨w'', hrun, hm, hk⟩ := (HMb.out.below (Ext.trans ((Below.refl _ _).drew) hw')).del Try.underlying3 Try.underlying67 hxG _
      refine ⟨_, w'', exec_delete (by rfl) (by rfl) (by rfl) hrun, hk, ?_⟩
      have HMc := Lib.hid hm
      have HKc : RowKit.Hid (Kept (fun b => b = g ∨ b = bm) wr w'') := Lib.hid ((HKb.out.trans (Kept.of_ext (Ext.trans ((Below.refl _ _).drew) hw'))).trans (hk.wider (fun _ _ e => Or.inr e)))
      have HBc : RowKit.Hid (Whole w'' g 69 [.int .i64 (win : Int), .int .i64 ((G : Int) + 1), .map (some bm)]) := Lib.hid (hk.whole (HBb.out.drew.below hw') (fun e => Hne.out e.symm))
      obtain ⟨Wc, gWc⟩ : ∃ x, w'' = x := ⟨_, rfl⟩
      rw [gWc] at HMc HKc HBc ⊢
      clear hw' hrun hm hk gWc
      simp only [Act.put, List.setIfInBounds_toArray, List.set_cons_zero, List.set_cons_succ]
      refine wpR_done (by kernel_rfl) ?_ _
      intro We hwe
      have hnx := HT.out.next (We := We) (by omega) (by have := GG.out; omega) (by rw [GG.out]; exact HBc.out.below hwe) (by rw [GG.out]; exact HMc.out.below hwe) (HKc.out.trans (Kept.of_ext hwe)) 34
      rw [GyA.out, Gyn.out, Gyc.out] at hnx
      obtain ⟨v', W', hrun, hT'⟩ := hnx
      obtain ⟨A', c', rfl, -⟩ := RdS.of_own hT'.own
      have hl' : (T ++ [y]).length = T.length + 1 := by rw [List.length_append]; rfl
      rw [hl'] at hrun hT'
      have Hrun := Lib.hid hrun
      have HT' := Lib.hid hT'
      clear hl' hrun hT' hwe HBc HMc HKc HBb HMb HKb ldb1 ldb2 HT
      go_wp2_with (first
        | (at_builtin
           refine wpList_app rfl (.tmp 82) (.tmp 84) _ rfl rfl rfl Hrun.out ?_))
      go_roundw
      case rel => exact ⟨T ++ [y], r, _, HT'⟩
      case measure => rw [List.length_cons] at hmany; simp only [lenOf]; omega
    · have HLk : RowKit.Hid (∀ w', Kept Nil_ wr.drew w' → (Instr.lookup 67 (.map (some bm)) (.int .i64 ((G : Int) + 1)) true).run Try.prog w' = .ok (.tuple #[.slice none 0 0, .bool false]) w') := Lib.hid (fun w' hk => (HRv.out.drew.below (KB hk)).look0 hxG (fun e he e' => hno e he (by omega)))
      clear hrv KB gG
      go_upto_region 6 with fail
      refine wp_region_reg (Nil_) (by kernel_rfl) ?_
      apply wpR_next 0 (some 52)
      · simp only [List.getElem?_toArray, List.getElem?_cons_succ, List.getElem?_cons_zero]; exact rfl
      · rfl
      · kernel_rfl
      · kernel_rfl
      · kernel_rfl
      · exact fun _ _ _ _ h => h
      apply Exists.intro
      apply And.intro
      · apply yr_run; rfl; intro w' hw'; go_simp; (try with_reducible rfl)
      simp only [Act.put, List.setIfInBounds_toArray, List.set_cons_zero, List.set_cons_succ]
      apply wpR_next 1 (some 53)
      · simp only [List.getElem?_toArray, List.getElem?_cons_succ, List.getElem?_cons_zero]; exact rfl
      · rfl
      · kernel_rfl
      · kernel_rfl
      · kernel_rfl
      · exact fun _ _ _ _ h => h
      apply Exists.intro
      apply And.intro
      · apply yr_run; rfl; intro w' hw'; go_simp; (try with_reducible rfl)
      simp only [Act.put, List.setIfInBounds_toArray, List.set_cons_zero, List.set_cons_succ]
      apply wpR_next 2 (some 54)
      · simp only [List.getElem?_toArray, List.getElem?_cons_succ, List.getElem?_cons_zero]; exact rfl
      · rfl
      · kernel_rfl
      · kernel_rfl
      · kernel_rfl
      · exact fun _ _ _ _ h => h
      apply Exists.intro
      apply And.intro
      · apply yr_run; rfl; intro w' hw'; go_simp; (try with_reducible rfl)
      simp only [Act.put, List.setIfInBounds_toArray, List.set_cons_zero, List.set_cons_succ]
      apply wpR_next 3 (some 55)
      · simp only [List.getElem?_toArray, List.getElem?_cons_succ, List.getElem?_cons_zero]; exact rfl
      · rfl
      · kernel_rfl
      · kernel_rfl
      · kernel_rfl
      · exact fun _ _ _ _ h => h
      apply Exists.intro
      apply And.intro
      · apply yr_run; rfl; intro w' hw'; go_simp; (try with_reducible rfl)
      simp only [Act.put, List.setIfInBounds_toArray, List.set_cons_zero, List.set_cons_succ]
      apply wpR_next 4 (some 56)
      · simp only [List.getElem?_toArray, List.getElem?_cons_succ, List.getElem?_cons_zero]; exact rfl
      · rfl
      · kernel_rfl
      · kernel_rfl
      · kernel_rfl
      · exact fun _ _ _ _ h => h
      apply Exists.intro
      apply And.intro
      · apply yr_run; rfl; intro w' hw'; go_simp; (try with_reducible rfl)
      simp only [Act.put, List.setIfInBounds_toArray, List.set_cons_zero, List.set_cons_succ]
      apply wpR_next 5 (some 57)
      · simp only [List.getElem?_toArray, List.getElem?_cons_succ, List.getElem?_cons_zero]; exact rfl
      · rfl
      · kernel_rfl
      · kernel_rfl
      · kernel_rfl
      · exact fun _ _ _ _ h => h
      apply Exists.intro
      apply And.intro
      · apply yr_run; rfl; intro w' hw'; go_simp; (try with_reducible rfl)
      simp only [Act.put, List.setIfInBounds_toArray, List.set_cons_zero, List.set_cons_succ]
      apply wpR_next 6 (some 58)
      · simp only [List.getElem?_toArray, List.getElem?_cons_succ, List.getElem?_cons_zero]; exact rfl
      · rfl
      · kernel_rfl
      · kernel_rfl
      · kernel_rfl
      · exact fun _ _ _ _ h => h
      apply Exists.intro
      apply And.intro
      · apply yr_run; rfl; intro w' hw'; go_simp; (try with_reducible rfl)
      simp only [Act.put, List.setIfInBounds_toArray, List.set_cons_zero, List.set_cons_succ]
      apply wpR_next 7 (some 59)
      · simp only [List.getElem?_toArray, List.getElem?_cons_succ, List.getElem?_cons_zero]; exact rfl
      · rfl
      · kernel_rfl
      · kernel_rfl
      · kernel_rfl
      · exact fun _ _ _ _ h => h
      apply Exists.intro
      apply And.intro
      · apply yr_run; rfl; intro w' hw'; go_simp; (try with_reducible rfl)
      simp only [Act.put, List.setIfInBounds_toArray, List.set_cons_zero, List.set_cons_succ]
      apply wpR_next 8 (some 60)
      · simp only [List.getElem?_toArray, List.getElem?_cons_succ, List.getElem?_cons_zero]; exact rfl
      · rfl
      · kernel_rfl
      · kernel_rfl
      · kernel_rfl
      · exact fun _ _ _ _ h => h
      apply Exists.intro
      apply And.intro
      · apply yr_run; rfl; intro w' hw'; go_simp; (try with_reducible rfl)
      simp only [Act.put, List.setIfInBounds_toArray, List.set_cons_zero, List.set_cons_succ]
      apply wpR_next 9 (some 61)
      · simp only [List.getElem?_toArray, List.getElem?_cons_succ, List.getElem?_cons_zero]; exact rfl
      · rfl
      · kernel_rfl
      · kernel_rfl
      · kernel_rfl
      · exact fun _ _ _ _ h => h
      apply Exists.intro
      apply And.intro
      · exact yr_run (by rfl) (fun w' h => exec_lookup (by rfl) (by rfl) (by rfl) (HLk.out w' h))
      simp only [Act.put, List.setIfInBounds_toArray, List.set_cons_zero, List.set_cons_succ]
      apply wpR_next 10 (some 51)
      · simp only [List.getElem?_toArray, List.getElem?_cons_succ, List.getElem?_cons_zero]; exact rfl
      · rfl
      · kernel_rfl
      · kernel_rfl
      · kernel_rfl
      · exact fun _ _ _ _ h => h
      apply Exists.intro
      apply And.intro
      · apply yr_run; rfl; intro w' hw'; go_simp; (try with_reducible rfl)
      simp only [Act.put, List.setIfInBounds_toArray, List.set_cons_zero, List.set_cons_succ]
      apply wpR_next 11 (some 62)
      · simp only [List.getElem?_toArray, List.getElem?_cons_succ, List.getElem?_cons_zero]; exact rfl
      · rfl
      · kernel_rfl
      · kernel_rfl
      · kernel_rfl
      · exact fun _ _ _ _ h => h
      apply Exists.intro
      apply And.intro
      · apply yr_run; rfl; intro w' hw'; go_simp; (try with_reducible rfl)
      simp only [Act.put, List.setIfInBounds_toArray, List.set_cons_zero, List.set_cons_succ]
      apply wpR_next 12 (some 63)
      · simp only [List.getElem?_toArray, List.getElem?_cons_succ, List.getElem?_cons_zero]; exact rfl
      · rfl
      · kernel_rfl
      · kernel_rfl
      · kernel_rfl
      · exact fun _ _ _ _ h => h
      apply Exists.intro
      apply And.intro
      · apply yr_run; rfl; intro w' hw'; go_simp; (try with_reducible rfl)
      simp only [Act.put, List.setIfInBounds_toArray, List.set_cons_zero, List.set_cons_succ]
      apply wpR_next 13 (some 11)
      · simp only [List.getElem?_toArray, List.getElem?_cons_succ, List.getElem?_cons_zero]; exact rfl
      · rfl
      · kernel_rfl
      · kernel_rfl
      · kernel_rfl
      · exact fun _ _ _ _ h => h
      apply Exists.intro
      apply And.intro
      · apply yr_run; rfl; intro w' hw'; go_simp; (try with_reducible rfl)
      simp only [Act.put, List.setIfInBounds_toArray, List.set_cons_zero, List.set_cons_succ]
      apply wpR_next 14 (some 12)
      · simp only [List.getElem?_toArray, List.getElem?_cons_succ, List.getElem?_cons_zero]; exact rfl
      · rfl
      · kernel_rfl
      · kernel_rfl
      · kernel_rfl
      · exact fun _ _ _ _ h => h
      apply Exists.intro
      apply And.intro
      · apply yr_run; rfl; intro w' hw'; go_simp; (try with_reducible rfl)
      simp only [Act.put, List.setIfInBounds_toArray, List.set_cons_zero, List.set_cons_succ]
      refine wpR_done (by kernel_rfl) ?_ _
      intro Wa hwa
      have HXa : RowKit.Hid (Ext wr Wa) := Lib.hid (Ext.trans ((Below.refl _ _).drew) hwa)
      have HTa := Lib.hid (HT.out.down HXa.out)
      rw [← GHL.out] at HTa
      clear hwa ld1 ld2 HLk HXa
      go_wp2
      refine bodyPost_ret (v := .tuple #[.slice A T.length c, .int .i64 0]) (by simp [results, Try.results28, go_sem]) rfl (TkIn.done HTa.out (by rw [GG.out]; exact hno) HNo.out)
end Go.Proofs.Ythfngmlnmpbcpaa
