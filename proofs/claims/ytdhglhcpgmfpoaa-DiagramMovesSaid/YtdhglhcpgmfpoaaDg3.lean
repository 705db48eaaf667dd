/- all[T]: each of a row may be. -/
import Derived.Test.YtdhglhcpgmfpoaaDg2
namespace Go.Proofs.Ytdhglhcpgmfpoaa
open Go.RowKit
set_option linter.unusedSimpArgs false
set_option linter.unusedVariables false

/-- A function of the program is entered. -/
abbrev Ent (k : Nat) : Prop := ∀ (args : Array Value) (W : World), (callFunc k args).run Try.prog W = .ok (.enter k args) W
theorem ent_of {k : Nat} {fn : Func} {c : Code} (hf : Try.prog.funcs[k]? = some fn) (hname : (fn.name == "runtime.NumGoroutine") = false) (hb : fn.body = some c) : Ent k := fun args W => by
  have h1 : fn.name ≠ "runtime.NumGoroutine" := by simpa using hname
  simp [callFunc, Sem.run_bind, hf, hb, h1]
/-- What a function tells of one. -/
def TellsV (k : Nat) (may : VC → Bool) (v : VC) (W : World) : Prop :=
  Calls Try.prog k #[.agg (vC v).toArray] W fun e w' => e = .returned (.bool (may v)) ∧ Below W.heap.size W w'
set_option maxRecDepth 100000 in
theorem notV (k : Nat) (may : VC → Bool) (v : VC) (g : Nat) (w : World) (he : Ent k) (hg : Whole w g 68 [.func (.func k) #[] #[]]) (hk : ∀ W, Below w.heap.size w W → TellsV k may v W) :
    Calls Try.prog 66 #[.agg (vC v).toArray, .pointer (some ⟨g, 0, none⟩)] w fun e w' => e = .returned (.bool (!may v)) ∧ Below w.heap.size w w' := by
  obtain ⟨b, hmy⟩ : ∃ b, may v = b := ⟨_, rfl⟩
  have HK : RowKit.Hid (∀ W, Below w.heap.size w W → Calls Try.prog k #[.agg (vC v).toArray] W fun e w' => e = .returned (.bool b) ∧ Below W.heap.size W w') := Lib.hid (by rw [← hmy]; exact hk)
  rw [hmy]
  clear hk hmy
  obtain ⟨⟨i1, i2⟩, ⟨rA, rn, rc, rL⟩, lb, at_⟩ := v
  replace HK : RowKit.Hid (∀ W, Below w.heap.size w W → Calls Try.prog k #[.agg #[.int .i64 i1, .int .i64 i2, .slice rA rn rc, .string lb, .int .i64 at_]] W fun e w' => e = .returned (.bool b) ∧ Below W.heap.size W w') := HK
  show Calls Try.prog 66 #[.agg #[.int .i64 i1, .int .i64 i2, .slice rA rn rc, .string lb, .int .i64 at_], .pointer (some ⟨g, 0, none⟩)] w _
  have c0 := (hg.below (below1 w (.cells #[.int .i64 i1, .int .i64 i2, .slice rA rn rc, .string lb, .int .i64 at_] 39))).cell (i := 0) rfl
  go_enter Try.func66, Try.ntmps66
  have HE := Lib.hid he
  clear he
  go_wp2_with fail
  rw [HE.out, Oper.upon_enter]
  refine (HK.out _ (below1 _ _)).mono ?_
  rintro e w3 ⟨rfl, hb⟩
  go_wp2
  go_ret
  exact ⟨rfl, below_after1 hb⟩
set_option maxRecDepth 100000 in
set_option maxHeartbeats 1000000 in
theorem idxfV (k : Nat) (may : VC → Bool) (g : Nat) (A : Option Addr) (n c : Nat) (Vs : List VC) (w : World) (h : RdS w w.heap.size 5 A n c (rowsV vC Vs)) (hn : n ≤ 1000000)
    (he : Ent k) (hg : Whole w g 68 [.func (.func k) #[] #[]]) (hk : ∀ v ∈ Vs, ∀ W, Below w.heap.size w W → TellsV k may v W) :
    Calls Try.prog 77 #[.slice A n c, .func (.func 66) #[] #[.pointer (some ⟨g, 0, none⟩)]] w fun e w' => (∃ i : Int, e = .returned (.int .i64 i) ∧ decide (0 ≤ i) = Vs.any (fun v => !may v)) ∧ Below w.heap.size w w' := by
  have hl := h.rlen vC_len (by decide)
  have H := Lib.hid h
  have Hl := Lib.hid hl
  have HN : RowKit.Hid (∀ v ∈ Vs, ∀ W, Below w.heap.size w W → Calls Try.prog 66 #[.agg (vC v).toArray, .pointer (some ⟨g, 0, none⟩)] W fun e w' => e = .returned (.bool (!may v)) ∧ Below W.heap.size W w') :=
    Lib.hid (fun v hv W hb => notV k may v g W he (hg.below hb) fun W' hb' => hk v hv W' (bel_bl hb hb'))
  clear h hl hg hk
  go_enter Try.func77, Try.ntmps77
  go_wp2
  go_loopw [8] (fun si wr => ∃ j : Nat, j ≤ n ∧ si = .int .i64 j ∧ RowKit.Hid (Below w.heap.size w wr) ∧ RowKit.Hid (Vs.any (fun v => !may v) = (Vs.drop j).any (fun v => !may v))) (fun si _ => n - (intOf si).toNat)
  case atStart => exact ⟨0, by omega, rfl, Lib.hid (Below.refl _ _), Lib.hid rfl⟩
  case round =>
    obtain ⟨j, hj, rfl, HB, HE⟩ := hrel
    by_cases hjn : j < n
    · obtain ⟨v, hx⟩ : ∃ v, Vs[j]? = some v := ⟨_, List.getElem?_eq_getElem (by have := Hl.out; omega)⟩
      have hdr : Vs.drop j = v :: Vs.drop (j + 1) := by
        rw [List.drop_eq_getElem_cons (List.getElem?_eq_some_iff.1 hx).1, (List.getElem?_eq_some_iff.1 hx).2]
      have HE2 := HE.out
      rw [hdr] at HE2
      have HE3 := Lib.hid HE2
      have hcn := HN.out v (List.mem_of_getElem? hx)
      obtain ⟨b, hmy⟩ : ∃ b, may v = b := ⟨_, rfl⟩
      rw [hmy] at hcn
      have Hmy := Lib.hid hmy
      obtain ⟨bb, off, rfl, hbB, hpl⟩ := H.out.place vC_len (by decide) (by omega)
      have hbw := HB.out
      have q0 := hpl j _ hx 0 _ rfl
      have q1 := hpl j _ hx 1 _ rfl
      have q2 := hpl j _ hx 2 _ rfl
      have q3 := hpl j _ hx 3 _ rfl
      have q4 := hpl j _ hx 4 _ rfl
      simp only [Addr.add_lit, Nat.add_zero] at q0 q1 q2 q3 q4
      have l0 := (hbw.cell (p := ⟨bb, off + j * 5, none⟩) hbB).trans q0
      have l1 := (hbw.cell (p := ⟨bb, off + j * 5 + 1, none⟩) hbB).trans q1
      have l2 := (hbw.cell (p := ⟨bb, off + j * 5 + 2, none⟩) hbB).trans q2
      have l3 := (hbw.cell (p := ⟨bb, off + j * 5 + 3, none⟩) hbB).trans q3
      have l4 := (hbw.cell (p := ⟨bb, off + j * 5 + 4, none⟩) hbB).trans q4
      obtain ⟨⟨i1, i2⟩, ⟨rA, rn, rc, rL⟩, lb, at_⟩ := v
      replace hcn : ∀ W, Below w.heap.size w W → Calls Try.prog 66 #[.agg #[.int .i64 i1, .int .i64 i2, .slice rA rn rc, .string lb, .int .i64 at_], .pointer (some ⟨g, 0, none⟩)] W fun e w' => e = .returned (.bool (!b)) ∧ Below W.heap.size W w' := hcn
      have HC := Lib.hid hcn
      clear hx hdr HE2 hpl hbw q0 q1 q2 q3 q4 hcn hbB HE hmy
      go_wp2_with fail
      refine (HC.out _ HB.out).mono ?_
      rintro e w3 ⟨rfl, hb3⟩
      have HB3 : RowKit.Hid (Below w.heap.size w w3) := Lib.hid (bel_bl HB.out hb3)
      clear hb3 l0 l1 l2 l3 l4
      cases b with
      | false =>
        have hr : Vs.any (fun v => !may v) = true := by rw [HE3.out, List.any_cons, Hmy.out]; rfl
        go_wp2
        go_ret
        exact ⟨⟨_, rfl, by rw [hr]; exact decide_eq_true (by omega)⟩, HB3.out⟩
      | true =>
        have HE4 : RowKit.Hid (Vs.any (fun v => !may v) = (Vs.drop (j + 1)).any (fun v => !may v)) := Lib.hid (by rw [HE3.out, List.any_cons, Hmy.out]; rfl)
        go_wp2
        go_roundw
        case rel => exact ⟨j + 1, by omega, by go_num, HB3, HE4⟩
        case measure => simp [intOf]; omega
    · obtain rfl : n = j := by omega
      have hr : Vs.any (fun v => !may v) = false := by
        rw [HE.out, List.drop_eq_nil_of_le (by have := Hl.out; omega)]; rfl
      go_wp2
      go_ret
      exact ⟨⟨_, rfl, by rw [hr]; rfl⟩, HB.out⟩
set_option maxRecDepth 100000 in
theorem hasV (k : Nat) (may : VC → Bool) (g : Nat) (A : Option Addr) (n c : Nat) (Vs : List VC) (w : World) (h : RdS w w.heap.size 5 A n c (rowsV vC Vs)) (hn : n ≤ 1000000)
    (he : Ent k) (hg : Whole w g 68 [.func (.func k) #[] #[]]) (hk : ∀ v ∈ Vs, ∀ W, Below w.heap.size w W → TellsV k may v W) :
    Calls Try.prog 65 #[.slice A n c, .func (.func 66) #[] #[.pointer (some ⟨g, 0, none⟩)]] w fun e w' => e = .returned (.bool (Vs.any (fun v => !may v))) ∧ Below w.heap.size w w' := by
  have HC := Lib.hid (idxfV k may g A n c Vs w h hn he hg hk)
  obtain ⟨b, hb⟩ : ∃ b, Vs.any (fun v => !may v) = b := ⟨_, rfl⟩
  rw [hb] at HC ⊢
  clear h hg hk hb
  go_enter Try.func65, Try.ntmps65
  go_wp2_with fail
  refine HC.out.mono ?_
  rintro e w3 ⟨⟨i, rfl, hi⟩, hb⟩
  go_wp2
  go_ret
  exact ⟨by first | exact rfl | exact congrArg (fun b => Ending.returned (Value.bool b)) hi, hb⟩
set_option maxRecDepth 100000 in
theorem allV (k : Nat) (may : VC → Bool) (A : Option Addr) (n c : Nat) (Vs : List VC) (w : World) (h : RdS w w.heap.size 5 A n c (rowsV vC Vs)) (hn : n ≤ 1000000)
    (he : Ent k) (hk : ∀ v ∈ Vs, ∀ W, Below w.heap.size w W → TellsV k may v W) :
    Calls Try.prog 40 #[.slice A n c, .func (.func k) #[] #[]] w fun e w' => e = .returned (.bool (Vs.all may)) ∧ Below w.heap.size w w' := by
  have HC := Lib.hid (hasV k may w.heap.size A n c Vs (w.alloc (.cells #[.func (.func k) #[] #[]] 68)) (h.al _) hn he (Whole.new_ w 68 [.func (.func k) #[] #[]]) fun v hv W hb => hk v hv W (below_after1 hb))
  obtain ⟨b, hb⟩ : ∃ b, Vs.all may = b := ⟨_, rfl⟩
  have hb2 : Vs.any (fun v => !may v) = !b := by
    rw [← hb]; simp [List.any_eq_not_all_not]
  rw [hb2] at HC
  rw [hb]
  clear h hk hb hb2
  go_enter Try.func40, Try.ntmps40
  go_wp2_with fail
  refine HC.out.mono ?_
  rintro e w3 ⟨rfl, hb⟩
  go_wp2
  go_ret
  exact ⟨by cases b <;> rfl, below_after1 hb⟩
/-- What a function tells of one. -/
def TellsE (k : Nat) (may : EC → Bool) (v : EC) (W : World) : Prop :=
  Calls Try.prog k #[.agg (eC v).toArray] W fun e w' => e = .returned (.bool (may v)) ∧ Below W.heap.size W w'
set_option maxRecDepth 100000 in
theorem notE (k : Nat) (may : EC → Bool) (v : EC) (g : Nat) (w : World) (he : Ent k) (hg : Whole w g 70 [.func (.func k) #[] #[]]) (hk : ∀ W, Below w.heap.size w W → TellsE k may v W) :
    Calls Try.prog 68 #[.agg (eC v).toArray, .pointer (some ⟨g, 0, none⟩)] w fun e w' => e = .returned (.bool (!may v)) ∧ Below w.heap.size w w' := by
  obtain ⟨b, hmy⟩ : ∃ b, may v = b := ⟨_, rfl⟩
  have HK : RowKit.Hid (∀ W, Below w.heap.size w W → Calls Try.prog k #[.agg (eC v).toArray] W fun e w' => e = .returned (.bool b) ∧ Below W.heap.size W w') := Lib.hid (by rw [← hmy]; exact hk)
  rw [hmy]
  clear hk hmy
  obtain ⟨⟨i1, i2⟩, lb, at_⟩ := v
  replace HK : RowKit.Hid (∀ W, Below w.heap.size w W → Calls Try.prog k #[.agg #[.int .i64 i1, .int .i64 i2, .string lb, .int .i64 at_]] W fun e w' => e = .returned (.bool b) ∧ Below W.heap.size W w') := HK
  show Calls Try.prog 68 #[.agg #[.int .i64 i1, .int .i64 i2, .string lb, .int .i64 at_], .pointer (some ⟨g, 0, none⟩)] w _
  have c0 := (hg.below (below1 w (.cells #[.int .i64 i1, .int .i64 i2, .string lb, .int .i64 at_] 43))).cell (i := 0) rfl
  go_enter Try.func68, Try.ntmps68
  have HE := Lib.hid he
  clear he
  go_wp2_with fail
  rw [HE.out, Oper.upon_enter]
  refine (HK.out _ (below1 _ _)).mono ?_
  rintro e w3 ⟨rfl, hb⟩
  go_wp2
  go_ret
  exact ⟨rfl, below_after1 hb⟩
set_option maxRecDepth 100000 in
set_option maxHeartbeats 1000000 in
theorem idxfE (k : Nat) (may : EC → Bool) (g : Nat) (A : Option Addr) (n c : Nat) (Vs : List EC) (w : World) (h : RdS w w.heap.size 4 A n c (rowsV eC Vs)) (hn : n ≤ 1000000)
    (he : Ent k) (hg : Whole w g 70 [.func (.func k) #[] #[]]) (hk : ∀ v ∈ Vs, ∀ W, Below w.heap.size w W → TellsE k may v W) :
    Calls Try.prog 78 #[.slice A n c, .func (.func 68) #[] #[.pointer (some ⟨g, 0, none⟩)]] w fun e w' => (∃ i : Int, e = .returned (.int .i64 i) ∧ decide (0 ≤ i) = Vs.any (fun v => !may v)) ∧ Below w.heap.size w w' := by
  have hl := h.rlen eC_len (by decide)
  have H := Lib.hid h
  have Hl := Lib.hid hl
  have HN : RowKit.Hid (∀ v ∈ Vs, ∀ W, Below w.heap.size w W → Calls Try.prog 68 #[.agg (eC v).toArray, .pointer (some ⟨g, 0, none⟩)] W fun e w' => e = .returned (.bool (!may v)) ∧ Below W.heap.size W w') :=
    Lib.hid (fun v hv W hb => notE k may v g W he (hg.below hb) fun W' hb' => hk v hv W' (bel_bl hb hb'))
  clear h hl hg hk
  go_enter Try.func78, Try.ntmps78
  go_wp2
  go_loopw [8] (fun si wr => ∃ j : Nat, j ≤ n ∧ si = .int .i64 j ∧ RowKit.Hid (Below w.heap.size w wr) ∧ RowKit.Hid (Vs.any (fun v => !may v) = (Vs.drop j).any (fun v => !may v))) (fun si _ => n - (intOf si).toNat)
  case atStart => exact ⟨0, by omega, rfl, Lib.hid (Below.refl _ _), Lib.hid rfl⟩
  case round =>
    obtain ⟨j, hj, rfl, HB, HE⟩ := hrel
    by_cases hjn : j < n
    · obtain ⟨v, hx⟩ : ∃ v, Vs[j]? = some v := ⟨_, List.getElem?_eq_getElem (by have := Hl.out; omega)⟩
      have hdr : Vs.drop j = v :: Vs.drop (j + 1) := by
        rw [List.drop_eq_getElem_cons (List.getElem?_eq_some_iff.1 hx).1, (List.getElem?_eq_some_iff.1 hx).2]
      have HE2 := HE.out
      rw [hdr] at HE2
      have HE3 := Lib.hid HE2
      have hcn := HN.out v (List.mem_of_getElem? hx)
      obtain ⟨b, hmy⟩ : ∃ b, may v = b := ⟨_, rfl⟩
      rw [hmy] at hcn
      have Hmy := Lib.hid hmy
      obtain ⟨bb, off, rfl, hbB, hpl⟩ := H.out.place eC_len (by decide) (by omega)
      have hbw := HB.out
      have q0 := hpl j _ hx 0 _ rfl
      have q1 := hpl j _ hx 1 _ rfl
      have q2 := hpl j _ hx 2 _ rfl
      have q3 := hpl j _ hx 3 _ rfl
      simp only [Addr.add_lit, Nat.add_zero] at q0 q1 q2 q3
      have l0 := (hbw.cell (p := ⟨bb, off + j * 4, none⟩) hbB).trans q0
      have l1 := (hbw.cell (p := ⟨bb, off + j * 4 + 1, none⟩) hbB).trans q1
      have l2 := (hbw.cell (p := ⟨bb, off + j * 4 + 2, none⟩) hbB).trans q2
      have l3 := (hbw.cell (p := ⟨bb, off + j * 4 + 3, none⟩) hbB).trans q3
      obtain ⟨⟨i1, i2⟩, lb, at_⟩ := v
      replace hcn : ∀ W, Below w.heap.size w W → Calls Try.prog 68 #[.agg #[.int .i64 i1, .int .i64 i2, .string lb, .int .i64 at_], .pointer (some ⟨g, 0, none⟩)] W fun e w' => e = .returned (.bool (!b)) ∧ Below W.heap.size W w' := hcn
      have HC := Lib.hid hcn
      clear hx hdr HE2 hpl hbw q0 q1 q2 q3 hcn hbB HE hmy
      go_wp2_with fail
      refine (HC.out _ HB.out).mono ?_
      rintro e w3 ⟨rfl, hb3⟩
      have HB3 : RowKit.Hid (Below w.heap.size w w3) := Lib.hid (bel_bl HB.out hb3)
      clear hb3 l0 l1 l2 l3
      cases b with
      | false =>
        have hr : Vs.any (fun v => !may v) = true := by rw [HE3.out, List.any_cons, Hmy.out]; rfl
        go_wp2
        go_ret
        exact ⟨⟨_, rfl, by rw [hr]; exact decide_eq_true (by omega)⟩, HB3.out⟩
      | true =>
        have HE4 : RowKit.Hid (Vs.any (fun v => !may v) = (Vs.drop (j + 1)).any (fun v => !may v)) := Lib.hid (by rw [HE3.out, List.any_cons, Hmy.out]; rfl)
        go_wp2
        go_roundw
        case rel => exact ⟨j + 1, by omega, by go_num, HB3, HE4⟩
        case measure => simp [intOf]; omega
    · obtain rfl : n = j := by omega
      have hr : Vs.any (fun v => !may v) = false := by
        rw [HE.out, List.drop_eq_nil_of_le (by have := Hl.out; omega)]; rfl
      go_wp2
      go_ret
      exact ⟨⟨_, rfl, by rw [hr]; rfl⟩, HB.out⟩
set_option maxRecDepth 100000 in
theorem hasE (k : Nat) (may : EC → Bool) (g : Nat) (A : Option Addr) (n c : Nat) (Vs : List EC) (w : World) (h : RdS w w.heap.size 4 A n c (rowsV eC Vs)) (hn : n ≤ 1000000)
    (he : Ent k) (hg : Whole w g 70 [.func (.func k) #[] #[]]) (hk : ∀ v ∈ Vs, ∀ W, Below w.heap.size w W → TellsE k may v W) :
    Calls Try.prog 67 #[.slice A n c, .func (.func 68) #[] #[.pointer (some ⟨g, 0, none⟩)]] w fun e w' => e = .returned (.bool (Vs.any (fun v => !may v))) ∧ Below w.heap.size w w' := by
  have HC := Lib.hid (idxfE k may g A n c Vs w h hn he hg hk)
  obtain ⟨b, hb⟩ : ∃ b, Vs.any (fun v => !may v) = b := ⟨_, rfl⟩
  rw [hb] at HC ⊢
  clear h hg hk hb
  go_enter Try.func67, Try.ntmps67
  go_wp2_with fail
  refine HC.out.mono ?_
  rintro e w3 ⟨⟨i, rfl, hi⟩, hb⟩
  go_wp2
  go_ret
  exact ⟨by first | exact rfl | exact congrArg (fun b => Ending.returned (Value.bool b)) hi, hb⟩
set_option maxRecDepth 100000 in
theorem allE (k : Nat) (may : EC → Bool) (A : Option Addr) (n c : Nat) (Vs : List EC) (w : World) (h : RdS w w.heap.size 4 A n c (rowsV eC Vs)) (hn : n ≤ 1000000)
    (he : Ent k) (hk : ∀ v ∈ Vs, ∀ W, Below w.heap.size w W → TellsE k may v W) :
    Calls Try.prog 42 #[.slice A n c, .func (.func k) #[] #[]] w fun e w' => e = .returned (.bool (Vs.all may)) ∧ Below w.heap.size w w' := by
  have HC := Lib.hid (hasE k may w.heap.size A n c Vs (w.alloc (.cells #[.func (.func k) #[] #[]] 70)) (h.al _) hn he (Whole.new_ w 70 [.func (.func k) #[] #[]]) fun v hv W hb => hk v hv W (below_after1 hb))
  obtain ⟨b, hb⟩ : ∃ b, Vs.all may = b := ⟨_, rfl⟩
  have hb2 : Vs.any (fun v => !may v) = !b := by
    rw [← hb]; simp [List.any_eq_not_all_not]
  rw [hb2] at HC
  rw [hb]
  clear h hk hb hb2
  go_enter Try.func42, Try.ntmps42
  go_wp2_with fail
  refine HC.out.mono ?_
  rintro e w3 ⟨rfl, hb⟩
  go_wp2
  go_ret
  exact ⟨by cases b <;> rfl, below_after1 hb⟩
end Go.Proofs.Ytdhglhcpgmfpoaa
