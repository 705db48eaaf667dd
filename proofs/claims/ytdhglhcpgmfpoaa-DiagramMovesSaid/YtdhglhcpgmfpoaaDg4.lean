/- turned: each ring begins with its least dart. -/
import Derived.Test.YtdhglhcpgmfpoaaDg3
import Derived.Deep.CutBlock
namespace Go.Proofs.Ytdhglhcpgmfpoaa
open Go.RowKit
set_option linter.unusedSimpArgs false
set_option linter.unusedVariables false

theorem entVL : Ent 41 := ent_of Try.func41 (by kernel_rfl) rfl
theorem entEL : Ent 43 := ent_of Try.func43 (by kernel_rfl) rfl
theorem entVA : Ent 44 := ent_of Try.func44 (by kernel_rfl) rfl
theorem entEA : Ent 45 := ent_of Try.func45 (by kernel_rfl) rfl
theorem entVT : Ent 62 := ent_of Try.func62 (by kernel_rfl) rfl
theorem RgOk.below {w w' : World} {r : Rg} (h : RgOk w r) (hb : Below w.heap.size w w') : RgOk w' r := ⟨h.1, h.2.bl hb⟩
def turnOk (v : VC) : Bool := decide (v.2.1.2.2.2 = turnD v.2.1.2.2.2)
set_option maxRecDepth 100000 in
set_option maxHeartbeats 1000000 in
theorem turnedV (v : VC) (w : World) (h : RgOk w v.2.1) (hn : v.2.1.2.1 ≤ 1000000) : TellsV 62 turnOk v w := by
  unfold TellsV turnOk
  obtain ⟨⟨i1, i2⟩, ⟨rA, rn, rc, rL⟩, lb, at_⟩ := v
  have hr : RdS w w.heap.size 3 rA rn rc (dartsV rL) := h.2
  replace hn : rn ≤ 1000000 := hn
  show Calls Try.prog 62 #[.agg #[.int .i64 i1, .int .i64 i2, .slice rA rn rc, .string lb, .int .i64 at_]] w fun e w' => e = .returned (.bool (decide (rL = turnD rL))) ∧ Below w.heap.size w w'
  obtain ⟨b, gb⟩ : ∃ b, decide (rL = turnD rL) = b := ⟨_, rfl⟩
  rw [gb]
  have Gb := Lib.hid gb
  have HR0 := Lib.hid (hr.al (.cells #[.int .i64 i1, .int .i64 i2, .slice rA rn rc, .string lb, .int .i64 at_] 39))
  have HW0 := Lib.hid (Whole.new_ w 39 [.int .i64 i1, .int .i64 i2, .slice rA rn rc, .string lb, .int .i64 at_])
  have HB0 := Lib.hid (below1 w (.cells #[.int .i64 i1, .int .i64 i2, .slice rA rn rc, .string lb, .int .i64 at_] 39))
  clear h hr gb
  go_enter Try.func62, Try.ntmps62
  go_upto_region 1 with fail
  obtain ⟨W1, gW1⟩ : ∃ x, w.alloc (.cells #[.int .i64 i1, .int .i64 i2, .slice rA rn rc, .string lb, .int .i64 at_] 39) = x := ⟨_, rfl⟩
  obtain ⟨g, gg⟩ : ∃ x, w.heap.size = x := ⟨_, rfl⟩
  have HB1 : RowKit.Hid (Below w.heap.size w W1) := Lib.hid (by rw [← gW1]; exact HB0.out)
  have HR1 : RowKit.Hid (RdS W1 W1.heap.size 3 rA rn rc (dartsV rL)) := Lib.hid (by rw [← gW1]; exact HR0.out)
  have HW1 : RowKit.Hid (Whole W1 g 39 [.int .i64 i1, .int .i64 i2, .slice rA rn rc, .string lb, .int .i64 at_]) := Lib.hid (by rw [← gW1, ← gg]; exact HW0.out)
  have HB1' : RowKit.Hid (Below g w W1) := Lib.hid (by rw [← gg]; exact HB1.out)
  clear HB0 HR0 HW0
  rw [gW1, gg]
  clear HB1 gW1
  have Gg := Lib.hid gg
  clear gg
  have ld1 : ∀ w', Kept Nil_ W1.drew w' → w'.cell? ⟨g, 2, none⟩ = some (.slice rA rn rc) := fun w' hk => hk.nil_cell (HW1.out.dr.cell (i := 2) rfl)
  refine wp_region_reg (Nil_) (by kernel_rfl) ?_
  apply wpR_next 0 (some 3)
  · simp only [List.getElem?_toArray, List.getElem?_cons_succ, List.getElem?_cons_zero]; exact rfl
  · rfl
  · kernel_rfl
  · kernel_rfl
  · kernel_rfl
  · exact fun _ _ _ _ h => h
  apply Exists.intro
  apply And.intro
  · apply yr_run; rfl; intro w' hw'; go_simp; (try with_reducible rfl)
  simp only [Act.put, List.setIfInBounds_toArray, List.set_cons_zero, List.set_cons_succ]
  apply wpR_next 1 (some 4)
  · simp only [List.getElem?_toArray, List.getElem?_cons_succ, List.getElem?_cons_zero]; exact rfl
  · rfl
  · kernel_rfl
  · kernel_rfl
  · kernel_rfl
  · exact fun _ _ _ _ h => h
  apply Exists.intro
  apply And.intro
  · apply yr_run; rfl; intro w' hw'; go_simp; (try with_reducible rfl)
  simp only [Act.put, List.setIfInBounds_toArray, List.set_cons_zero, List.set_cons_succ]
  apply wpR_next 2 (some 5)
  · simp only [List.getElem?_toArray, List.getElem?_cons_succ, List.getElem?_cons_zero]; exact rfl
  · rfl
  · kernel_rfl
  · kernel_rfl
  · kernel_rfl
  · exact fun _ _ _ _ h => h
  apply Exists.intro
  apply And.intro
  · apply yr_run; rfl; intro w' hw'; go_simp; (try with_reducible rfl)
  simp only [Act.put, List.setIfInBounds_toArray, List.set_cons_zero, List.set_cons_succ]
  apply wpR_next 3 (some 6)
  · simp only [List.getElem?_toArray, List.getElem?_cons_succ, List.getElem?_cons_zero]; exact rfl
  · rfl
  · kernel_rfl
  · kernel_rfl
  · kernel_rfl
  · exact fun _ _ _ _ h => h
  apply Exists.intro
  apply And.intro
  · apply yr_run; rfl; intro w' hw'; go_simp; (try with_reducible rfl)
  simp only [Act.put, List.setIfInBounds_toArray, List.set_cons_zero, List.set_cons_succ]
  apply wpR_call 4 (some 7)
  · simp only [List.getElem?_toArray, List.getElem?_cons_succ, List.getElem?_cons_zero]; exact rfl
  · rfl
  · kernel_rfl
  · rfl
  · intro w'; go_simp; first | done | exact ⟨rfl, rfl⟩ | with_reducible rfl
  intro w' hw'
  refine (turn_any rA rn rc rL w' (HR1.out.dr.bl hw') hn).mono ?_
  rintro e w'' ⟨A2, c2, rfl, h2, hbl⟩
  have hr2 := (HR1.out.dr.bl hw').bl hbl
  have HQ : RowKit.Hid (∀ w1, Kept Nil_ w'' w1 → Calls Try.prog 63 #[.slice rA rn rc, .slice A2 (turnD rL).length c2] w1 fun e w3 => e = .returned (.bool b) ∧ Below w1.heap.size w1 w3) := Lib.hid (fun w1 hk => by
    have hB : Below w''.heap.size w'' w1 := hk.below (Nat.le_refl _) (fun _ _ h => h)
    have := sequal_any rA A2 rn (turnD rL).length rc c2 rL (turnD rL) w1 (hr2.bl hB) (h2.bl hB) (by omega)
    rw [Gb.out] at this
    exact this)
  refine ⟨_, rfl, Kept.of_below hbl, ?_⟩
  have HX : RowKit.Hid (Ext W1.drew w'') := Lib.hid (Ext.trans hw' hbl)
  obtain ⟨V2, gV2⟩ : ∃ x, w'' = x := ⟨_, rfl⟩
  obtain ⟨m2, gm2⟩ : ∃ x, (turnD rL).length = x := ⟨_, rfl⟩
  rw [gV2, gm2] at HQ
  rw [gV2] at HX ⊢
  rw [gm2]
  clear hw' hbl hr2 h2 gV2 gm2
  simp only [Act.put, List.setIfInBounds_toArray, List.set_cons_zero, List.set_cons_succ]
  apply wpR_next 5 (some 8)
  · simp only [List.getElem?_toArray, List.getElem?_cons_succ, List.getElem?_cons_zero]; exact rfl
  · rfl
  · kernel_rfl
  · kernel_rfl
  · kernel_rfl
  · exact fun _ _ _ _ h => h
  apply Exists.intro
  apply And.intro
  · apply yr_call; rfl; rotate_left; intro w' hw'; exact HQ.out w' hw'; intro w'; go_simp
  simp only [Act.put, List.setIfInBounds_toArray, List.set_cons_zero, List.set_cons_succ]
  apply wpR_next 6 (some 2)
  · simp only [List.getElem?_toArray, List.getElem?_cons_succ, List.getElem?_cons_zero]; exact rfl
  · rfl
  · kernel_rfl
  · kernel_rfl
  · kernel_rfl
  · exact fun _ _ _ _ h => h
  apply Exists.intro
  apply And.intro
  · apply yr_run; rfl; intro w' hw'; go_simp; (try with_reducible rfl)
  simp only [Act.put, List.setIfInBounds_toArray, List.set_cons_zero, List.set_cons_succ]
  refine wpR_done (by kernel_rfl) ?_ _
  intro W3 hw3
  have HB3 : RowKit.Hid (Below w.heap.size w W3) := Lib.hid (bel_bl (bel_dr (show Below w.heap.size w W1 by rw [Gg.out]; exact HB1'.out)) (Ext.trans HX.out hw3))
  clear hw3 ld1
  go_wp2
  go_ret
  exact ⟨rfl, HB3.out⟩
set_option maxRecDepth 100000 in
theorem turned_all (A : Option Addr) (n c : Nat) (Vs : List VC) (B : Option Addr) (m k : Nat) (Es : List EC) (w : World) (h : DgIn w A n c Vs B m k Es) (hn : n ≤ 1000000) (hr : ∀ x ∈ Vs, x.2.1.2.1 ≤ 1000000) :
    Calls Try.prog 38 #[.agg #[.slice A n c, .slice B m k]] w fun e w' => e = .returned (.bool (Vs.all turnOk)) ∧ Below w.heap.size w w' := by
  have HC := Lib.hid (allV 62 turnOk A n c Vs (w.alloc (.cells #[.slice A n c, .slice B m k] 25)) (h.v.al _) hn entVT fun v hv W hb => turnedV v W ((h.r v hv).below (below_after1 hb)) (hr v hv))
  obtain ⟨b, hb⟩ : ∃ b, Vs.all turnOk = b := ⟨_, rfl⟩
  rw [hb] at HC ⊢
  clear h hb hr
  go_enter Try.func38, Try.ntmps38
  go_wp2_with fail
  refine HC.out.mono ?_
  rintro e w3 ⟨rfl, hb⟩
  go_wp2
  go_ret
  exact ⟨rfl, below_after1 hb⟩
end Go.Proofs.Ytdhglhcpgmfpoaa
