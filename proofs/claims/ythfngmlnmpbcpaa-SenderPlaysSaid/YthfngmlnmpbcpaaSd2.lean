/- Ack and Push of a sender. -/
import Derived.Test.YthfngmlnmpbcpaaSd1
import Derived.Test.YthfngmlnmpbcpaaRegT
namespace Go.Proofs.Ythfngmlnmpbcpaa
open Go.RowKit
set_option linter.unusedSimpArgs false
set_option linter.unusedVariables false

theorem info_sl : (Try.prog.info? 32).map (fun i => (i.zero, i.size, i.bytes)) = some (some (.slice none 0 0), 1, 24) := by kernel_rfl
theorem rowsV_get1 (es : List Sl) (i : Nat) : (rowsV slc es)[i]? = es[i]?.map (fun e => Value.slice e.1 e.2.1 e.2.2) := by
  induction es generalizing i with
  | nil => rfl
  | cons e es ih => cases i <;> simp [rowsV, slc, ih]
theorem own_kept {S : Nat → Prop} {w w' : World} {B n : Nat} {e : TypeId} {size : Nat} {v : Value} {xs : List Value} (h : w.ownsRow B e size v n xs) (hk : Kept S w w') (hne : ∀ b, v.ownBlock = some b → ¬ S b) : w'.ownsRow B e size v n xs := by
  refine ⟨h.1, ?_⟩
  rcases h.2 with h3 | ⟨b, cap, cur, e1, e2, e3, e4⟩
  · exact .inl h3
  · have hlt : b < w.heap.size := (Array.getElem?_eq_some_iff.1 e3).1
    exact .inr ⟨b, cap, cur, e1, e2, (hk.block b hlt (hne b (by rw [e1]; rfl))).trans e3, e4⟩
theorem SdIn.lt {B : Nat} {w : World} {g win ack c : Nat} {Ls : List (List Nat)} {A : Option Addr} {es : List Sl} {k : Option Nat} (h : SdIn B w g win ack Ls A c es k) : g < w.heap.size := h.box.lt
/-- What came is dropped. -/
theorem SdIn.cut {B : Nat} {w W : World} {g win ack c : Nat} {Ls : List (List Nat)} {A : Option Addr} {es : List Sl} {k : Option Nat} (h : SdIn B w g win ack Ls A c es k) (j : Nat) {b0 : Nat} {A2 : Option Addr} {c2 : Nat} (hk : Kept (fun b => b = g) w W)
    (hb : Whole W g 66 [.int .i64 (win : Int), .int .i64 ((ack : Int) + (j : Int)), .slice A2 (Ls.length - j) c2]) (ho : W.ownsRow b0 32 1 (.slice A2 (Ls.length - j) c2) (Ls.length - j) ((rowsV slc es).drop (j * 1))) (h0 : w.heap.size ≤ b0) :
    SdIn B W g win (ack + j) (Ls.drop j) A2 c2 (es.drop j) (Value.slice A2 (Ls.length - j) c2).ownBlock := by
  have hlt := h.lt
  have hlo : ∀ a, A2 = some a → b0 ≤ a.block := fun a ha => by subst ha; exact (ho.lt a.block rfl).1
  rw [← rowsV_drop slc slc_len] at ho
  obtain ⟨A3, c3, e3, hr⟩ := RdS.of_own ho
  injection e3 with a1 _ a3
  subst a1 a3
  refine ⟨by rw [List.length_drop, Int.natCast_add]; exact hb, h.lo, by rw [List.length_drop]; exact hr, .inl ⟨by rw [List.length_drop], by rw [List.length_drop]; exact own_lo ho (by have := h.lo; omega)⟩, fun a ha _ => by have := hlo a ha; omega, ?_, fun i L hL => ?_⟩
  · cases A2 with
    | none => intro e; cases e
    | some a => intro e; have h1 := hlo a rfl; have h2 : a.block = g := Option.some.inj e; omega
  · rw [List.getElem?_drop] at hL
    obtain ⟨a, m, q1, q2, q3, q4, q5⟩ := h.each (j + i) L hL
    refine ⟨a, m, by rw [List.getElem?_drop]; exact q1, q2.kept_ne hk (fun a' ha hn => (q5 a' ha hn).1), q3, q4, fun a0 ha hn => ⟨(q5 a0 ha hn).1, fun e => ?_⟩⟩
    have hal := q2.low a0 ha hn
    cases A2 with
    | none => cases e
    | some a' => have h1 := hlo a' rfl; have h2 : a0.block = a'.block := Option.some.inj e; omega
set_option maxRecDepth 100000 in
theorem ack_lo {B : Nat} {g win ack c : Nat} {Ls : List (List Nat)} {A : Option Addr} {es : List Sl} {k : Option Nat} (w : World) (h : SdIn B w g win ack Ls A c es k) (ha : ack ≤ 100000) (hn : Ls.length ≤ 100000) (x : Int) (hx : x < ack) :
    Calls Try.prog 14 #[.pointer (some ⟨g, 0, none⟩), .int .i64 x] w fun e w' => e = .returned (.int .i64 22) ∧ w = w' := by
  have l1 := h.box.cell (i := 1) rfl
  have t1 : decide (x < (ack : Int)) = true := decide_eq_true hx
  clear h ha hn
  go_enter Try.func14, Try.ntmps14
  go_wp2
  go_ret
  exact ⟨rfl, rfl⟩
set_option maxRecDepth 100000 in
theorem ack_hi {B : Nat} {g win ack c : Nat} {Ls : List (List Nat)} {A : Option Addr} {es : List Sl} {k : Option Nat} (w : World) (h : SdIn B w g win ack Ls A c es k) (ha : ack ≤ 100000) (hn : Ls.length ≤ 100000) (x : Int) (hx : (ack : Int) + (Ls.length : Int) < x) :
    Calls Try.prog 14 #[.pointer (some ⟨g, 0, none⟩), .int .i64 x] w fun e w' => e = .returned (.int .i64 22) ∧ Below w.heap.size w w' := by
  have HP := Lib.hid (pushed_any w h (by omega) (by omega))
  have l1 := h.box.cell (i := 1) rfl
  have t1 : decide (x < (ack : Int)) = false := decide_eq_false (by omega)
  have t2 : decide ((ack : Int) + (Ls.length : Int) < x) = true := decide_eq_true hx
  have hx2 : ¬ x < (ack : Int) := by omega
  clear h ha hn
  go_enter Try.func14, Try.ntmps14
  go_wp2_with (first | (go_at_call 36; refine HP.out.mono ?_; rintro e w' ⟨rfl, hb⟩; have HB := Lib.hid hb; clear hb))
  go_ret
  exact ⟨rfl, HB.out⟩
set_option maxRecDepth 100000 in
set_option maxHeartbeats 1000000 in
theorem ack_yes {B : Nat} {g win ack c : Nat} {Ls : List (List Nat)} {A : Option Addr} {es : List Sl} {k : Option Nat} (w : World) (h : SdIn B w g win ack Ls A c es k) (ha : ack ≤ 100000) (hn : Ls.length ≤ 100000) (j : Nat) (hj : j ≤ Ls.length) :
    Calls Try.prog 14 #[.pointer (some ⟨g, 0, none⟩), .int .i64 ((ack : Int) + (j : Int))] w fun e w' => e = .returned (.int .i64 0) ∧ ∃ A' c' es' k', SdIn B w' g win (ack + j) (Ls.drop j) A' c' es' k' ∧ Kept (fun b => b = g) w w' ∧ (k' = none ∨ ∃ b, k' = some b ∧ w.heap.size ≤ b) ∧ k' = (Value.slice A' (Ls.length - j) c').ownBlock ∧ es' = es.drop j := by
  have HP := Lib.hid (pushed_any w h (by omega) (by omega))
  obtain ⟨i0, hi, hz0, hz1, hz2⟩ := info_parts_ info_sl
  have l1 := h.box.cell (i := 1) rfl
  have t1 : decide ((ack : Int) + (j : Int) < (ack : Int)) = false := decide_eq_false (by omega)
  have t2 : decide ((ack : Int) + (Ls.length : Int) < (ack : Int) + (j : Int)) = false := decide_eq_false (by omega)
  have t3 : ¬ (ack : Int) + (j : Int) < (ack : Int) := by omega
  have t4 : ¬ (ack : Int) + (Ls.length : Int) < (ack : Int) + (j : Int) := by omega
  have t5 : decide (Ls.length < j) = false := decide_eq_false (by omega)
  have H := Lib.hid h
  have Hn := Lib.hid hn
  clear h
  go_enter Try.func14, Try.ntmps14
  go_upto_region 3 with (first | (go_at_call 36; refine HP.out.mono ?_; rintro e w1 ⟨rfl, hb⟩; have H1 := Lib.hid (H.out.below hb); have HB1 := Lib.hid hb; clear hb))
  clear t1 t2 t3 t4 t5 HP l1 ha
  have HX1 : RowKit.Hid (Kept (fun b => b = g) w w1.drew) := Lib.hid ((Kept.of_below HB1.out).drew)
  have H2 := Lib.hid H1.out.drew
  have ld1 : ∀ w', Kept Nil_ w1.drew w' → w'.cell? ⟨g, 1, none⟩ = some (.int .i64 (ack : Int)) := fun w' hk => hk.nil_cell (H2.out.box.cell (i := 1) rfl)
  have ld2 : ∀ w', Kept Nil_ w1.drew w' → w'.cell? ⟨g, 2, none⟩ = some (.slice A Ls.length c) := fun w' hk => hk.nil_cell (H2.out.box.cell (i := 2) rfl)
  obtain ⟨A3, gA3⟩ : ∃ x, (if c = j then A else A.map (·.add (j * 1))) = x := ⟨_, rfl⟩
  have HA3 := Lib.hid gA3
  clear gA3
  have hs1 : (ack : Int) + (j : Int) - (ack : Int) = (j : Int) := by omega
  have hs2 : IntKind.i64.wrap (j : Int) = (j : Int) := IntWalk.i64_in _ (by omega)
  refine wp_region_tail (Nil_) [15] (by kernel_rfl) ?_
  apply wpT_next 0 (some 17) (by kernel_rfl)
  · simp only [List.getElem?_toArray, List.getElem?_cons_succ, List.getElem?_cons_zero]; exact rfl
  · rfl
  · kernel_rfl
  · kernel_rfl
  · kernel_rfl
  · exact fun _ _ _ _ h => h
  apply Exists.intro
  apply And.intro
  · apply yr_run; rfl; intro w' hw'; go_simp; (try with_reducible rfl)
  simp only [Act.put, List.setIfInBounds_toArray, List.set_cons_zero, List.set_cons_succ]
  apply wpT_next 1 (some 18) (by kernel_rfl)
  · simp only [List.getElem?_toArray, List.getElem?_cons_succ, List.getElem?_cons_zero]; exact rfl
  · rfl
  · kernel_rfl
  · kernel_rfl
  · kernel_rfl
  · exact fun _ _ _ _ h => h
  apply Exists.intro
  apply And.intro
  · apply yr_run; rfl; intro w' hw'; go_simp; (try with_reducible rfl)
  simp only [Act.put, List.setIfInBounds_toArray, List.set_cons_zero, List.set_cons_succ]
  apply wpT_next 2 (some 19) (by kernel_rfl)
  · simp only [List.getElem?_toArray, List.getElem?_cons_succ, List.getElem?_cons_zero]; exact rfl
  · rfl
  · kernel_rfl
  · kernel_rfl
  · kernel_rfl
  · exact fun _ _ _ _ h => h
  apply Exists.intro
  apply And.intro
  · apply yr_run; rfl; intro w' hw'; go_simp; (try with_reducible rfl)
  simp only [Act.put, List.setIfInBounds_toArray, List.set_cons_zero, List.set_cons_succ]
  apply wpT_next 3 (some 20) (by kernel_rfl)
  · simp only [List.getElem?_toArray, List.getElem?_cons_succ, List.getElem?_cons_zero]; exact rfl
  · rfl
  · kernel_rfl
  · kernel_rfl
  · kernel_rfl
  · exact fun _ _ _ _ h => h
  apply Exists.intro
  apply And.intro
  · apply yr_run; rfl; intro w' hw'; go_simp; (try with_reducible rfl)
  simp only [Act.put, List.setIfInBounds_toArray, List.set_cons_zero, List.set_cons_succ]
  apply wpT_next 4 (some 21) (by kernel_rfl)
  · simp only [List.getElem?_toArray, List.getElem?_cons_succ, List.getElem?_cons_zero]; exact rfl
  · rfl
  · kernel_rfl
  · kernel_rfl
  · kernel_rfl
  · exact fun _ _ _ _ h => h
  apply Exists.intro
  apply And.intro
  · apply yr_run; rfl; intro w' hw'; go_simp; (try with_reducible rfl)
  simp only [Act.put, List.setIfInBounds_toArray, List.set_cons_zero, List.set_cons_succ]
  apply wpT_next 5 (some 22) (by kernel_rfl)
  · simp only [List.getElem?_toArray, List.getElem?_cons_succ, List.getElem?_cons_zero]; exact rfl
  · rfl
  · kernel_rfl
  · kernel_rfl
  · kernel_rfl
  · exact fun _ _ _ _ h => h
  apply Exists.intro
  apply And.intro
  · apply yr_run; rfl; intro w' hw'; go_simp; (try with_reducible rfl)
  simp only [Act.put, List.setIfInBounds_toArray, List.set_cons_zero, List.set_cons_succ]
  apply wpT_next 6 (some 23) (by kernel_rfl)
  · simp only [List.getElem?_toArray, List.getElem?_cons_succ, List.getElem?_cons_zero]; exact rfl
  · rfl
  · kernel_rfl
  · kernel_rfl
  · kernel_rfl
  · exact fun _ _ _ _ h => h
  apply Exists.intro
  apply And.intro
  · apply yr_run; rfl; intro w' hw'; go_simp; (try with_reducible rfl)
  simp only [Act.put, List.setIfInBounds_toArray, List.set_cons_zero, List.set_cons_succ]
  apply wpT_next 7 (some 24) (by kernel_rfl)
  · simp only [List.getElem?_toArray, List.getElem?_cons_succ, List.getElem?_cons_zero]; exact rfl
  · rfl
  · kernel_rfl
  · kernel_rfl
  · kernel_rfl
  · exact fun _ _ _ _ h => h
  apply Exists.intro
  apply And.intro
  · apply yr_run; rfl; intro w' hw'; go_simp; (try with_reducible rfl)
  simp only [Act.put, List.setIfInBounds_toArray, List.set_cons_zero, List.set_cons_succ]
  apply wpT_next 8 (some 25) (by kernel_rfl)
  · simp only [List.getElem?_toArray, List.getElem?_cons_succ, List.getElem?_cons_zero]; exact rfl
  · rfl
  · kernel_rfl
  · kernel_rfl
  · kernel_rfl
  · exact fun _ _ _ _ h => h
  apply Exists.intro
  apply And.intro
  · apply yr_run; rfl; intro w' hw'; go_simp; (try with_reducible rfl)
  simp only [Act.put, List.setIfInBounds_toArray, List.set_cons_zero, List.set_cons_succ]
  apply wpT_next 9 (some 26) (by kernel_rfl)
  · simp only [List.getElem?_toArray, List.getElem?_cons_succ, List.getElem?_cons_zero]; exact rfl
  · rfl
  · kernel_rfl
  · kernel_rfl
  · kernel_rfl
  · exact fun _ _ _ _ h => h
  apply Exists.intro
  apply And.intro
  · apply yr_run; rfl; intro w' hw'; go_simp; (try with_reducible rfl)
  simp only [Act.put, List.setIfInBounds_toArray, List.set_cons_zero, List.set_cons_succ]
  apply wpT_next 10 (some 27) (by kernel_rfl)
  · simp only [List.getElem?_toArray, List.getElem?_cons_succ, List.getElem?_cons_zero]; exact rfl
  · rfl
  · kernel_rfl
  · kernel_rfl
  · kernel_rfl
  · exact fun _ _ _ _ h => h
  apply Exists.intro
  apply And.intro
  · apply yr_run; rfl; intro w' hw'; go_simp; (try with_reducible rfl)
  simp only [Act.put, List.setIfInBounds_toArray, List.set_cons_zero, List.set_cons_succ]
  apply wpT_next 11 (some 28) (by kernel_rfl)
  · simp only [List.getElem?_toArray, List.getElem?_cons_succ, List.getElem?_cons_zero]; exact rfl
  · rfl
  · kernel_rfl
  · kernel_rfl
  · kernel_rfl
  · exact fun _ _ _ _ h => h
  apply Exists.intro
  apply And.intro
  · exact yr_run (by rfl) (fun w' h => exec_slice_low_as 34 32 (.tmp 21) (.tmp 27) rfl Try.underlying34 (s := 1) (by kernel_rfl) rfl rfl hj HA3.out rfl rfl)
  simp only [Act.put, List.setIfInBounds_toArray, List.set_cons_zero, List.set_cons_succ]
  apply wpT_run 12 (some 29)
  · simp only [List.getElem?_toArray, List.getElem?_cons_succ, List.getElem?_cons_zero]; exact rfl
  · rfl
  · kernel_rfl
  · rfl
  intro w' hw'
  have hrr := (H2.out.row.low_ hj)
  rw [HA3.out] at hrr
  have hr2 := RdS.bl (w := w1.drew) (hrr.up (Below.refl _ _) (Nat.le_refl _)) hw'
  obtain ⟨vv, w'', hrun, ho, hb, hg, hbk⟩ := Ow.app2 (P := Try.prog) 34 34 32 i0 _ 1 24 w'.heap.size Try.underlying34 hi hz0 hz1 hz2 rfl (by decide) _ 0 [] (Ow.nil_ (e := 32) (size := 1) (Below.refl w'.heap.size w') (Nat.le_refl _) (Nat.le_refl _)) _ _ _ _ _ hr2 (by rw [← rowsV_drop slc slc_len]; exact slc_all _) (by have := Hn.out; unfold maxLen; omega) (by have := Hn.out; omega)
  refine ⟨vv, w'', exec_append (by rfl) (by rfl) (by rfl) hrun, Kept.of_below hb, ?_⟩
  rw [Nat.zero_add, List.nil_append] at ho
  obtain ⟨A2, c2, rfl, hr3⟩ := ho.rds
  have HO := Lib.hid ho
  have HX2 : RowKit.Hid (Ext w1.drew w'') := Lib.hid (Ext.trans hw' hb)
  have HSz : RowKit.Hid (w.heap.size ≤ w'.heap.size) := Lib.hid (Nat.le_trans HB1.out.size hw'.size)
  have HOb : RowKit.Hid (w''.ownsRow w'.heap.size 32 1 (.slice A2 (Ls.length - j) c2) (Ls.length - j) ((rowsV slc es).drop (j * 1))) := Lib.hid ho.own
  obtain ⟨W2, gW2⟩ : ∃ x, w'' = x := ⟨_, rfl⟩
  obtain ⟨b0, gb0⟩ : ∃ x, w'.heap.size = x := ⟨_, rfl⟩
  rw [gW2] at HX2 HOb ⊢
  rw [gb0] at HOb HSz
  have HG0 : RowKit.Hid (g < b0) := Lib.hid (by rw [← gb0]; exact Nat.lt_of_lt_of_le H2.out.box.lt hw'.size)
  have HB0 : RowKit.Hid (w1.drew.heap.size ≤ b0) := Lib.hid (by rw [← gb0]; exact hw'.size)
  clear hw' hrun ho hb hg hbk hr3 HO hrr hr2 gW2 gb0
  simp only [Act.put, List.setIfInBounds_toArray, List.set_cons_zero, List.set_cons_succ]
  apply wpT_run 13 (some 30)
  · simp only [List.getElem?_toArray, List.getElem?_cons_succ, List.getElem?_cons_zero]; exact rfl
  · rfl
  · kernel_rfl
  · rfl
  intro w' hw'
  apply Exists.intro
  apply Exists.intro
  apply And.intro
  · go_simp; first | done | exact ⟨rfl, rfl⟩ | exact rfl
  apply And.intro
  · exact Kept.refl _ _
  have hpd13 := hw'
  clear hw'
  simp only [Act.put, List.setIfInBounds_toArray, List.set_cons_zero, List.set_cons_succ]
  apply wpT_next 14 (some 31) (by kernel_rfl)
  · simp only [List.getElem?_toArray, List.getElem?_cons_succ, List.getElem?_cons_zero]; exact rfl
  · rfl
  · kernel_rfl
  · kernel_rfl
  · kernel_rfl
  · exact fun _ _ _ _ h => h
  apply Exists.intro
  apply And.intro
  · apply yr_run; rfl; intro w' hw'; go_simp; (try with_reducible rfl)
  simp only [Act.put, List.setIfInBounds_toArray, List.set_cons_zero, List.set_cons_succ]
  apply wpT_last 15
  · simp only [List.getElem?_toArray, List.getElem?_cons_succ, List.getElem?_cons_zero]; exact rfl
  · rfl
  · kernel_rfl
  · rfl
  · decide
  intro w' hw'
  replace hw' := Ext.trans hpd13 hw'
  clear hpd13
  have hbx := (H2.out.box.below HX2.out).below hw'
  have hcl := hbx.cell (i := 2) rfl
  have hfr := hbx.free 2
  refine ⟨w'.setCell ⟨g, 2, none⟩ (.slice A2 (Ls.length - j) c2), ?_, ?_⟩
  · go_simp; first | done | exact rfl
  have HBX : RowKit.Hid (Whole (w'.setCell ⟨g, 2, none⟩ (.slice A2 (Ls.length - j) c2)) g 66 [.int .i64 (win : Int), .int .i64 (ack : Int), .slice A2 (Ls.length - j) c2]) := Lib.hid (hbx.set_ 2 _)
  have HX3 : RowKit.Hid (Ext w1.drew w') := Lib.hid (Ext.trans HX2.out hw')
  have HKX : RowKit.Hid (Kept (fun b => b = g) w' (w'.setCell ⟨g, 2, none⟩ (.slice A2 (Ls.length - j) c2))) := Lib.hid ((Kept.refl (fun b => b = g) w').setCell (p := ⟨g, 2, none⟩) (.inl rfl) _)
  have HOc := Lib.hid (own_up HOb.out hw')
  obtain ⟨W3, gW3⟩ : ∃ x, w' = x := ⟨_, rfl⟩
  rw [gW3] at HX3 HKX HOc HBX ⊢
  obtain ⟨W4, gW4⟩ : ∃ x, W3.setCell ⟨g, 2, none⟩ (.slice A2 (Ls.length - j) c2) = x := ⟨_, rfl⟩
  rw [gW4] at HKX HBX ⊢
  clear hw' hbx hcl hfr gW3 gW4
  try simp only [Act.put, List.setIfInBounds_toArray, List.set_cons_zero, List.set_cons_succ]
  refine wpT_done (by kernel_rfl) ?_ _
  intro W5 hw5
  have HBY := Lib.hid (HBX.out.below hw5)
  have hcl := HBY.out.cell (i := 1) rfl
  have hfr := HBY.out.free 1
  clear hs1 hs2 ld1 ld2
  have HKY : RowKit.Hid (Kept (fun b => b = g) w W5) := Lib.hid (HX1.out.trans ((Kept.of_ext HX3.out).trans (HKX.out.trans (Kept.of_ext hw5))))
  have HOd : RowKit.Hid (W5.ownsRow b0 32 1 (.slice A2 (Ls.length - j) c2) (Ls.length - j) ((rowsV slc es).drop (j * 1))) := Lib.hid (own_kept HOc.out (HKX.out.trans (Kept.of_ext hw5)) (fun b hb e => by have h1 := (HOc.out.lt b hb).1; have h2 := HG0.out; have h3 : b = g := e; omega))
  clear hw5 HX1 HX3 HKX HOc
  go_wp2
  go_ret
  have hK : Kept (fun b => b = g) w (W5.setCell ⟨g, 1, none⟩ (.int .i64 ((ack : Int) + (j : Int)))) := HKY.out.setCell (p := ⟨g, 1, none⟩) (.inl rfl) _
  have hO := own_kept HOd.out ((Kept.refl (fun b => b = g) W5).setCell (p := ⟨g, 1, none⟩) (.inl rfl) (.int .i64 ((ack : Int) + (j : Int)))) (fun b hb e => by have h1 := (HOd.out.lt b hb).1; have h2 := HG0.out; have h3 : b = g := e; omega)
  refine ⟨rfl, A2, c2, es.drop j, _, H.out.cut j hK (HBY.out.set_ 1 _) hO HSz.out, hK, ?_, rfl, rfl⟩
  cases A2 with
  | none => exact .inl rfl
  | some a => exact .inr ⟨a.block, rfl, Nat.le_trans HSz.out (HOd.out.lt a.block rfl).1⟩
end Go.Proofs.Ythfngmlnmpbcpaa
