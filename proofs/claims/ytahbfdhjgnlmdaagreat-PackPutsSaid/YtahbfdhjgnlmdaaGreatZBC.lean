/- Several texts in one. -/
import Derived.Test.YtahbfdhjgnlmdaaGreatZBB
import Derived.Deep.CutBlock
import Derived.Maps.OwnSet
import Derived.DeepKeys4
import Derived.Test.YtahbfdhjgnlmdaaGreatZBA
import Derived.Laws.ResultCell

/- all[T]: each of a row may be. -/
namespace Go.Proofs.YtahbfdhjgnlmdaaGreat
open Go.RowKit
set_option linter.unusedSimpArgs false
set_option linter.unusedVariables false

/-- A function of the program is entered. -/
abbrev Ent (k : Nat) : Prop := ∀ (args : Array Value) (W : World), (callFunc k args).run Tryz.prog W = .ok (.enter k args) W
theorem ent_of {k : Nat} {fn : Func} {c : Code} (hf : Tryz.prog.funcs[k]? = some fn) (hname : (fn.name == "runtime.NumGoroutine") = false) (hb : fn.body = some c) : Ent k := fun args W => by
  have h1 : fn.name ≠ "runtime.NumGoroutine" := by simpa using hname
  simp [callFunc, Sem.run_bind, hf, hb, h1]
/-- What a function tells of one. -/
def TellsV (k : Nat) (may : VC → Bool) (v : VC) (W : World) : Prop :=
  Calls Tryz.prog k #[.agg (vC v).toArray] W fun e w' => e = .returned (.bool (may v)) ∧ Below W.heap.size W w'
set_option maxRecDepth 100000 in
theorem notV (k : Nat) (may : VC → Bool) (v : VC) (g : Nat) (w : World) (he : Ent k) (hg : Whole w g 85 [.func (.func k) #[] #[]]) (hk : ∀ W, Below w.heap.size w W → TellsV k may v W) :
    Calls Tryz.prog 72 #[.agg (vC v).toArray, .pointer (some ⟨g, 0, none⟩)] w fun e w' => e = .returned (.bool (!may v)) ∧ Below w.heap.size w w' := by
  obtain ⟨b, hmy⟩ : ∃ b, may v = b := ⟨_, rfl⟩
  have HK : RowKit.Hid (∀ W, Below w.heap.size w W → Calls Tryz.prog k #[.agg (vC v).toArray] W fun e w' => e = .returned (.bool b) ∧ Below W.heap.size W w') := Lib.hid (by rw [← hmy]; exact hk)
  rw [hmy]
  clear hk hmy
  obtain ⟨⟨i1, i2⟩, ⟨rA, rn, rc, rL⟩, lb, at_⟩ := v
  replace HK : RowKit.Hid (∀ W, Below w.heap.size w W → Calls Tryz.prog k #[.agg #[.int .i64 i1, .int .i64 i2, .slice rA rn rc, .string lb, .int .i64 at_]] W fun e w' => e = .returned (.bool b) ∧ Below W.heap.size W w') := HK
  show Calls Tryz.prog 72 #[.agg #[.int .i64 i1, .int .i64 i2, .slice rA rn rc, .string lb, .int .i64 at_], .pointer (some ⟨g, 0, none⟩)] w _
  have c0 := (hg.below (below1 w (.cells #[.int .i64 i1, .int .i64 i2, .slice rA rn rc, .string lb, .int .i64 at_] 47))).cell (i := 0) rfl
  go_enter Tryz.func72, Tryz.ntmps72
  have HE := Lib.hid he
  clear he
  go_wp2_with fail
  rw [HE.out, Oper.upon_enter]
  refine (HK.out _ (below1 _ _)).mono ?_
  rintro e w3 ⟨rfl, hb⟩
  go_wp2
  go_ret
  exact ⟨rfl, below_after1 hb⟩
set_option maxRecDepth 100000 in
set_option maxHeartbeats 1000000 in
theorem idxfV (k : Nat) (may : VC → Bool) (g : Nat) (A : Option Addr) (n c : Nat) (Vs : List VC) (w : World) (h : RdS w w.heap.size 5 A n c (rowsV vC Vs)) (hn : n ≤ 1000000)
    (he : Ent k) (hg : Whole w g 85 [.func (.func k) #[] #[]]) (hk : ∀ v ∈ Vs, ∀ W, Below w.heap.size w W → TellsV k may v W) :
    Calls Tryz.prog 88 #[.slice A n c, .func (.func 72) #[] #[.pointer (some ⟨g, 0, none⟩)]] w fun e w' => (∃ i : Int, e = .returned (.int .i64 i) ∧ decide (0 ≤ i) = Vs.any (fun v => !may v)) ∧ Below w.heap.size w w' := by
  have hl := h.rlen vC_len (by decide)
  have H := Lib.hid h
  have Hl := Lib.hid hl
  have HN : RowKit.Hid (∀ v ∈ Vs, ∀ W, Below w.heap.size w W → Calls Tryz.prog 72 #[.agg (vC v).toArray, .pointer (some ⟨g, 0, none⟩)] W fun e w' => e = .returned (.bool (!may v)) ∧ Below W.heap.size W w') :=
    Lib.hid (fun v hv W hb => notV k may v g W he (hg.below hb) fun W' hb' => hk v hv W' (bel_bl hb hb'))
  clear h hl hg hk
  go_enter Tryz.func88, Tryz.ntmps88
  go_wp2
  go_loopw [8] (fun si wr => ∃ j : Nat, j ≤ n ∧ si = .int .i64 j ∧ RowKit.Hid (Below w.heap.size w wr) ∧ RowKit.Hid (Vs.any (fun v => !may v) = (Vs.drop j).any (fun v => !may v))) (fun si _ => n - (intOf si).toNat)
  case atStart => exact ⟨0, by omega, rfl, Lib.hid (Below.refl _ _), Lib.hid rfl⟩
  case round =>
    obtain ⟨j, hj, rfl, HB, HE⟩ := hrel
    by_cases hjn : j < n
    · obtain ⟨v, hx⟩ : ∃ v, Vs[j]? = some v := ⟨_, List.getElem?_eq_getElem (by have := Hl.out; omega)⟩
      have hdr : Vs.drop j = v :: Vs.drop (j + 1) := by
        rw [List.drop_eq_getElem_cons (List.getElem?_eq_some_iff.1 hx).1, (List.getElem?_eq_some_iff.1 hx).2]
      have HE2 := HE.out
      rw [hdr] at HE2
      have HE3 := Lib.hid HE2
      have hcn := HN.out v (List.mem_of_getElem? hx)
      obtain ⟨b, hmy⟩ : ∃ b, may v = b := ⟨_, rfl⟩
      rw [hmy] at hcn
      have Hmy := Lib.hid hmy
      obtain ⟨bb, off, rfl, hbB, hpl⟩ := H.out.place vC_len (by decide) (by omega)
      have hbw := HB.out
      have q0 := hpl j _ hx 0 _ rfl
      have q1 := hpl j _ hx 1 _ rfl
      have q2 := hpl j _ hx 2 _ rfl
      have q3 := hpl j _ hx 3 _ rfl
      have q4 := hpl j _ hx 4 _ rfl
      simp only [Addr.add_lit, Nat.add_zero] at q0 q1 q2 q3 q4
      have l0 := (hbw.cell (p := ⟨bb, off + j * 5, none⟩) hbB).trans q0
      have l1 := (hbw.cell (p := ⟨bb, off + j * 5 + 1, none⟩) hbB).trans q1
      have l2 := (hbw.cell (p := ⟨bb, off + j * 5 + 2, none⟩) hbB).trans q2
      have l3 := (hbw.cell (p := ⟨bb, off + j * 5 + 3, none⟩) hbB).trans q3
      have l4 := (hbw.cell (p := ⟨bb, off + j * 5 + 4, none⟩) hbB).trans q4
      obtain ⟨⟨i1, i2⟩, ⟨rA, rn, rc, rL⟩, lb, at_⟩ := v
      replace hcn : ∀ W, Below w.heap.size w W → Calls Tryz.prog 72 #[.agg #[.int .i64 i1, .int .i64 i2, .slice rA rn rc, .string lb, .int .i64 at_], .pointer (some ⟨g, 0, none⟩)] W fun e w' => e = .returned (.bool (!b)) ∧ Below W.heap.size W w' := hcn
      have HC := Lib.hid hcn
      clear hx hdr HE2 hpl hbw q0 q1 q2 q3 q4 hcn hbB HE hmy
      go_wp2_with fail
      refine (HC.out _ HB.out).mono ?_
      rintro e w3 ⟨rfl, hb3⟩
      have HB3 : RowKit.Hid (Below w.heap.size w w3) := Lib.hid (bel_bl HB.out hb3)
      clear hb3 l0 l1 l2 l3 l4
      cases b with
      | false =>
        have hr : Vs.any (fun v => !may v) = true := by rw [HE3.out, List.any_cons, Hmy.out]; rfl
        go_wp2
        go_ret
        exact ⟨⟨_, rfl, by rw [hr]; exact decide_eq_true (by omega)⟩, HB3.out⟩
      | true =>
        have HE4 : RowKit.Hid (Vs.any (fun v => !may v) = (Vs.drop (j + 1)).any (fun v => !may v)) := Lib.hid (by rw [HE3.out, List.any_cons, Hmy.out]; rfl)
        go_wp2
        go_roundw
        case rel => exact ⟨j + 1, by omega, by go_num, HB3, HE4⟩
        case measure => simp [intOf]; omega
    · obtain rfl : n = j := by omega
      have hr : Vs.any (fun v => !may v) = false := by
        rw [HE.out, List.drop_eq_nil_of_le (by have := Hl.out; omega)]; rfl
      go_wp2
      go_ret
      exact ⟨⟨_, rfl, by rw [hr]; rfl⟩, HB.out⟩
set_option maxRecDepth 100000 in
theorem hasV (k : Nat) (may : VC → Bool) (g : Nat) (A : Option Addr) (n c : Nat) (Vs : List VC) (w : World) (h : RdS w w.heap.size 5 A n c (rowsV vC Vs)) (hn : n ≤ 1000000)
    (he : Ent k) (hg : Whole w g 85 [.func (.func k) #[] #[]]) (hk : ∀ v ∈ Vs, ∀ W, Below w.heap.size w W → TellsV k may v W) :
    Calls Tryz.prog 71 #[.slice A n c, .func (.func 72) #[] #[.pointer (some ⟨g, 0, none⟩)]] w fun e w' => e = .returned (.bool (Vs.any (fun v => !may v))) ∧ Below w.heap.size w w' := by
  have HC := Lib.hid (idxfV k may g A n c Vs w h hn he hg hk)
  obtain ⟨b, hb⟩ : ∃ b, Vs.any (fun v => !may v) = b := ⟨_, rfl⟩
  rw [hb] at HC ⊢
  clear h hg hk hb
  go_enter Tryz.func71, Tryz.ntmps71
  go_wp2_with fail
  refine HC.out.mono ?_
  rintro e w3 ⟨⟨i, rfl, hi⟩, hb⟩
  go_wp2
  go_ret
  exact ⟨by first | exact rfl | exact congrArg (fun b => Ending.returned (Value.bool b)) hi, hb⟩
set_option maxRecDepth 100000 in
theorem allV (k : Nat) (may : VC → Bool) (A : Option Addr) (n c : Nat) (Vs : List VC) (w : World) (h : RdS w w.heap.size 5 A n c (rowsV vC Vs)) (hn : n ≤ 1000000)
    (he : Ent k) (hk : ∀ v ∈ Vs, ∀ W, Below w.heap.size w W → TellsV k may v W) :
    Calls Tryz.prog 49 #[.slice A n c, .func (.func k) #[] #[]] w fun e w' => e = .returned (.bool (Vs.all may)) ∧ Below w.heap.size w w' := by
  have HC := Lib.hid (hasV k may w.heap.size A n c Vs (w.alloc (.cells #[.func (.func k) #[] #[]] 85)) (h.al _) hn he (Whole.new_ w 85 [.func (.func k) #[] #[]]) fun v hv W hb => hk v hv W (below_after1 hb))
  obtain ⟨b, hb⟩ : ∃ b, Vs.all may = b := ⟨_, rfl⟩
  have hb2 : Vs.any (fun v => !may v) = !b := by
    rw [← hb]; simp [List.any_eq_not_all_not]
  rw [hb2] at HC
  rw [hb]
  clear h hk hb hb2
  go_enter Tryz.func49, Tryz.ntmps49
  go_wp2_with fail
  refine HC.out.mono ?_
  rintro e w3 ⟨rfl, hb⟩
  go_wp2
  go_ret
  exact ⟨by cases b <;> rfl, below_after1 hb⟩
/-- What a function tells of one. -/
def TellsE (k : Nat) (may : EC → Bool) (v : EC) (W : World) : Prop :=
  Calls Tryz.prog k #[.agg (eC v).toArray] W fun e w' => e = .returned (.bool (may v)) ∧ Below W.heap.size W w'
set_option maxRecDepth 100000 in
theorem notE (k : Nat) (may : EC → Bool) (v : EC) (g : Nat) (w : World) (he : Ent k) (hg : Whole w g 87 [.func (.func k) #[] #[]]) (hk : ∀ W, Below w.heap.size w W → TellsE k may v W) :
    Calls Tryz.prog 75 #[.agg (eC v).toArray, .pointer (some ⟨g, 0, none⟩)] w fun e w' => e = .returned (.bool (!may v)) ∧ Below w.heap.size w w' := by
  obtain ⟨b, hmy⟩ : ∃ b, may v = b := ⟨_, rfl⟩
  have HK : RowKit.Hid (∀ W, Below w.heap.size w W → Calls Tryz.prog k #[.agg (eC v).toArray] W fun e w' => e = .returned (.bool b) ∧ Below W.heap.size W w') := Lib.hid (by rw [← hmy]; exact hk)
  rw [hmy]
  clear hk hmy
  obtain ⟨⟨i1, i2⟩, lb, at_⟩ := v
  replace HK : RowKit.Hid (∀ W, Below w.heap.size w W → Calls Tryz.prog k #[.agg #[.int .i64 i1, .int .i64 i2, .string lb, .int .i64 at_]] W fun e w' => e = .returned (.bool b) ∧ Below W.heap.size W w') := HK
  show Calls Tryz.prog 75 #[.agg #[.int .i64 i1, .int .i64 i2, .string lb, .int .i64 at_], .pointer (some ⟨g, 0, none⟩)] w _
  have c0 := (hg.below (below1 w (.cells #[.int .i64 i1, .int .i64 i2, .string lb, .int .i64 at_] 43))).cell (i := 0) rfl
  go_enter Tryz.func75, Tryz.ntmps75
  have HE := Lib.hid he
  clear he
  go_wp2_with fail
  rw [HE.out, Oper.upon_enter]
  refine (HK.out _ (below1 _ _)).mono ?_
  rintro e w3 ⟨rfl, hb⟩
  go_wp2
  go_ret
  exact ⟨rfl, below_after1 hb⟩
set_option maxRecDepth 100000 in
set_option maxHeartbeats 1000000 in
theorem idxfE (k : Nat) (may : EC → Bool) (g : Nat) (A : Option Addr) (n c : Nat) (Vs : List EC) (w : World) (h : RdS w w.heap.size 4 A n c (rowsV eC Vs)) (hn : n ≤ 1000000)
    (he : Ent k) (hg : Whole w g 87 [.func (.func k) #[] #[]]) (hk : ∀ v ∈ Vs, ∀ W, Below w.heap.size w W → TellsE k may v W) :
    Calls Tryz.prog 89 #[.slice A n c, .func (.func 75) #[] #[.pointer (some ⟨g, 0, none⟩)]] w fun e w' => (∃ i : Int, e = .returned (.int .i64 i) ∧ decide (0 ≤ i) = Vs.any (fun v => !may v)) ∧ Below w.heap.size w w' := by
  have hl := h.rlen eC_len (by decide)
  have H := Lib.hid h
  have Hl := Lib.hid hl
  have HN : RowKit.Hid (∀ v ∈ Vs, ∀ W, Below w.heap.size w W → Calls Tryz.prog 75 #[.agg (eC v).toArray, .pointer (some ⟨g, 0, none⟩)] W fun e w' => e = .returned (.bool (!may v)) ∧ Below W.heap.size W w') :=
    Lib.hid (fun v hv W hb => notE k may v g W he (hg.below hb) fun W' hb' => hk v hv W' (bel_bl hb hb'))
  clear h hl hg hk
  go_enter Tryz.func89, Tryz.ntmps89
  go_wp2
  go_loopw [8] (fun si wr => ∃ j : Nat, j ≤ n ∧ si = .int .i64 j ∧ RowKit.Hid (Below w.heap.size w wr) ∧ RowKit.Hid (Vs.any (fun v => !may v) = (Vs.drop j).any (fun v => !may v))) (fun si _ => n - (intOf si).toNat)
  case atStart => exact ⟨0, by omega, rfl, Lib.hid (Below.refl _ _), Lib.hid rfl⟩
  case round =>
    obtain ⟨j, hj, rfl, HB, HE⟩ := hrel
    by_cases hjn : j < n
    · obtain ⟨v, hx⟩ : ∃ v, Vs[j]? = some v := ⟨_, List.getElem?_eq_getElem (by have := Hl.out; omega)⟩
      have hdr : Vs.drop j = v :: Vs.drop (j + 1) := by
        rw [List.drop_eq_getElem_cons (List.getElem?_eq_some_iff.1 hx).1, (List.getElem?_eq_some_iff.1 hx).2]
      have HE2 := HE.out
      rw [hdr] at HE2
      have HE3 := Lib.hid HE2
      have hcn := HN.out v (List.mem_of_getElem? hx)
      obtain ⟨b, hmy⟩ : ∃ b, may v = b := ⟨_, rfl⟩
      rw [hmy] at hcn
      have Hmy := Lib.hid hmy
      obtain ⟨bb, off, rfl, hbB, hpl⟩ := H.out.place eC_len (by decide) (by omega)
      have hbw := HB.out
      have q0 := hpl j _ hx 0 _ rfl
      have q1 := hpl j _ hx 1 _ rfl
      have q2 := hpl j _ hx 2 _ rfl
      have q3 := hpl j _ hx 3 _ rfl
      simp only [Addr.add_lit, Nat.add_zero] at q0 q1 q2 q3
      have l0 := (hbw.cell (p := ⟨bb, off + j * 4, none⟩) hbB).trans q0
      have l1 := (hbw.cell (p := ⟨bb, off + j * 4 + 1, none⟩) hbB).trans q1
      have l2 := (hbw.cell (p := ⟨bb, off + j * 4 + 2, none⟩) hbB).trans q2
      have l3 := (hbw.cell (p := ⟨bb, off + j * 4 + 3, none⟩) hbB).trans q3
      obtain ⟨⟨i1, i2⟩, lb, at_⟩ := v
      replace hcn : ∀ W, Below w.heap.size w W → Calls Tryz.prog 75 #[.agg #[.int .i64 i1, .int .i64 i2, .string lb, .int .i64 at_], .pointer (some ⟨g, 0, none⟩)] W fun e w' => e = .returned (.bool (!b)) ∧ Below W.heap.size W w' := hcn
      have HC := Lib.hid hcn
      clear hx hdr HE2 hpl hbw q0 q1 q2 q3 hcn hbB HE hmy
      go_wp2_with fail
      refine (HC.out _ HB.out).mono ?_
      rintro e w3 ⟨rfl, hb3⟩
      have HB3 : RowKit.Hid (Below w.heap.size w w3) := Lib.hid (bel_bl HB.out hb3)
      clear hb3 l0 l1 l2 l3
      cases b with
      | false =>
        have hr : Vs.any (fun v => !may v) = true := by rw [HE3.out, List.any_cons, Hmy.out]; rfl
        go_wp2
        go_ret
        exact ⟨⟨_, rfl, by rw [hr]; exact decide_eq_true (by omega)⟩, HB3.out⟩
      | true =>
        have HE4 : RowKit.Hid (Vs.any (fun v => !may v) = (Vs.drop (j + 1)).any (fun v => !may v)) := Lib.hid (by rw [HE3.out, List.any_cons, Hmy.out]; rfl)
        go_wp2
        go_roundw
        case rel => exact ⟨j + 1, by omega, by go_num, HB3, HE4⟩
        case measure => simp [intOf]; omega
    · obtain rfl : n = j := by omega
      have hr : Vs.any (fun v => !may v) = false := by
        rw [HE.out, List.drop_eq_nil_of_le (by have := Hl.out; omega)]; rfl
      go_wp2
      go_ret
      exact ⟨⟨_, rfl, by rw [hr]; rfl⟩, HB.out⟩
set_option maxRecDepth 100000 in
theorem hasE (k : Nat) (may : EC → Bool) (g : Nat) (A : Option Addr) (n c : Nat) (Vs : List EC) (w : World) (h : RdS w w.heap.size 4 A n c (rowsV eC Vs)) (hn : n ≤ 1000000)
    (he : Ent k) (hg : Whole w g 87 [.func (.func k) #[] #[]]) (hk : ∀ v ∈ Vs, ∀ W, Below w.heap.size w W → TellsE k may v W) :
    Calls Tryz.prog 74 #[.slice A n c, .func (.func 75) #[] #[.pointer (some ⟨g, 0, none⟩)]] w fun e w' => e = .returned (.bool (Vs.any (fun v => !may v))) ∧ Below w.heap.size w w' := by
  have HC := Lib.hid (idxfE k may g A n c Vs w h hn he hg hk)
  obtain ⟨b, hb⟩ : ∃ b, Vs.any (fun v => !may v) = b := ⟨_, rfl⟩
  rw [hb] at HC ⊢
  clear h hg hk hb
  go_enter Tryz.func74, Tryz.ntmps74
  go_wp2_with fail
  refine HC.out.mono ?_
  rintro e w3 ⟨⟨i, rfl, hi⟩, hb⟩
  go_wp2
  go_ret
  exact ⟨by first | exact rfl | exact congrArg (fun b => Ending.returned (Value.bool b)) hi, hb⟩
set_option maxRecDepth 100000 in
theorem allE (k : Nat) (may : EC → Bool) (A : Option Addr) (n c : Nat) (Vs : List EC) (w : World) (h : RdS w w.heap.size 4 A n c (rowsV eC Vs)) (hn : n ≤ 1000000)
    (he : Ent k) (hk : ∀ v ∈ Vs, ∀ W, Below w.heap.size w W → TellsE k may v W) :
    Calls Tryz.prog 51 #[.slice A n c, .func (.func k) #[] #[]] w fun e w' => e = .returned (.bool (Vs.all may)) ∧ Below w.heap.size w w' := by
  have HC := Lib.hid (hasE k may w.heap.size A n c Vs (w.alloc (.cells #[.func (.func k) #[] #[]] 87)) (h.al _) hn he (Whole.new_ w 87 [.func (.func k) #[] #[]]) fun v hv W hb => hk v hv W (below_after1 hb))
  obtain ⟨b, hb⟩ : ∃ b, Vs.all may = b := ⟨_, rfl⟩
  have hb2 : Vs.any (fun v => !may v) = !b := by
    rw [← hb]; simp [List.any_eq_not_all_not]
  rw [hb2] at HC
  rw [hb]
  clear h hk hb hb2
  go_enter Tryz.func51, Tryz.ntmps51
  go_wp2_with fail
  refine HC.out.mono ?_
  rintro e w3 ⟨rfl, hb⟩
  go_wp2
  go_ret
  exact ⟨by cases b <;> rfl, below_after1 hb⟩
end Go.Proofs.YtahbfdhjgnlmdaaGreat

/- turned: each ring begins with its least dart. -/
namespace Go.Proofs.YtahbfdhjgnlmdaaGreat
open Go.RowKit
set_option linter.unusedSimpArgs false
set_option linter.unusedVariables false

theorem entVL : Ent 50 := ent_of Tryz.func50 (by kernel_rfl) rfl
theorem entEL : Ent 52 := ent_of Tryz.func52 (by kernel_rfl) rfl
theorem entVA : Ent 53 := ent_of Tryz.func53 (by kernel_rfl) rfl
theorem entEA : Ent 54 := ent_of Tryz.func54 (by kernel_rfl) rfl
theorem entVT : Ent 68 := ent_of Tryz.func68 (by kernel_rfl) rfl
theorem RgOk.below {w w' : World} {r : Rg} (h : RgOk w r) (hb : Below w.heap.size w w') : RgOk w' r := ⟨h.1, h.2.bl hb⟩
def turnOk (v : VC) : Bool := decide (v.2.1.2.2.2 = turnD v.2.1.2.2.2)
set_option maxRecDepth 100000 in
set_option maxHeartbeats 1000000 in
theorem turnedV (v : VC) (w : World) (h : RgOk w v.2.1) (hn : v.2.1.2.1 ≤ 1000000) : TellsV 68 turnOk v w := by
  unfold TellsV turnOk
  obtain ⟨⟨i1, i2⟩, ⟨rA, rn, rc, rL⟩, lb, at_⟩ := v
  have hr : RdS w w.heap.size 3 rA rn rc (dartsV rL) := h.2
  replace hn : rn ≤ 1000000 := hn
  show Calls Tryz.prog 68 #[.agg #[.int .i64 i1, .int .i64 i2, .slice rA rn rc, .string lb, .int .i64 at_]] w fun e w' => e = .returned (.bool (decide (rL = turnD rL))) ∧ Below w.heap.size w w'
  obtain ⟨b, gb⟩ : ∃ b, decide (rL = turnD rL) = b := ⟨_, rfl⟩
  rw [gb]
  have Gb := Lib.hid gb
  have HR0 := Lib.hid (hr.al (.cells #[.int .i64 i1, .int .i64 i2, .slice rA rn rc, .string lb, .int .i64 at_] 47))
  have HW0 := Lib.hid (Whole.new_ w 47 [.int .i64 i1, .int .i64 i2, .slice rA rn rc, .string lb, .int .i64 at_])
  have HB0 := Lib.hid (below1 w (.cells #[.int .i64 i1, .int .i64 i2, .slice rA rn rc, .string lb, .int .i64 at_] 47))
  clear h hr gb
  go_enter Tryz.func68, Tryz.ntmps68
  go_upto_region 1 with fail
  obtain ⟨W1, gW1⟩ : ∃ x, w.alloc (.cells #[.int .i64 i1, .int .i64 i2, .slice rA rn rc, .string lb, .int .i64 at_] 47) = x := ⟨_, rfl⟩
  obtain ⟨g, gg⟩ : ∃ x, w.heap.size = x := ⟨_, rfl⟩
  have HB1 : RowKit.Hid (Below w.heap.size w W1) := Lib.hid (by rw [← gW1]; exact HB0.out)
  have HR1 : RowKit.Hid (RdS W1 W1.heap.size 3 rA rn rc (dartsV rL)) := Lib.hid (by rw [← gW1]; exact HR0.out)
  have HW1 : RowKit.Hid (Whole W1 g 47 [.int .i64 i1, .int .i64 i2, .slice rA rn rc, .string lb, .int .i64 at_]) := Lib.hid (by rw [← gW1, ← gg]; exact HW0.out)
  have HB1' : RowKit.Hid (Below g w W1) := Lib.hid (by rw [← gg]; exact HB1.out)
  clear HB0 HR0 HW0
  rw [gW1, gg]
  clear HB1 gW1
  have Gg := Lib.hid gg
  clear gg
  have ld1 : ∀ w', Kept Nil_ W1.drew w' → w'.cell? ⟨g, 2, none⟩ = some (.slice rA rn rc) := fun w' hk => hk.nil_cell (HW1.out.dr.cell (i := 2) rfl)
  refine wp_region_reg (Nil_) (by kernel_rfl) ?_
  apply wpR_next 0 (some 3)
  · simp only [List.getElem?_toArray, List.getElem?_cons_succ, List.getElem?_cons_zero]; exact rfl
  · rfl
  · kernel_rfl
  · kernel_rfl
  · kernel_rfl
  · exact fun _ _ _ _ h => h
  apply Exists.intro
  apply And.intro
  · apply yr_run; rfl; intro w' hw'; go_simp; (try with_reducible rfl)
  simp only [Act.put, List.setIfInBounds_toArray, List.set_cons_zero, List.set_cons_succ]
  apply wpR_next 1 (some 4)
  · simp only [List.getElem?_toArray, List.getElem?_cons_succ, List.getElem?_cons_zero]; exact rfl
  · rfl
  · kernel_rfl
  · kernel_rfl
  · kernel_rfl
  · exact fun _ _ _ _ h => h
  apply Exists.intro
  apply And.intro
  · apply yr_run; rfl; intro w' hw'; go_simp; (try with_reducible rfl)
  simp only [Act.put, List.setIfInBounds_toArray, List.set_cons_zero, List.set_cons_succ]
  apply wpR_next 2 (some 5)
  · simp only [List.getElem?_toArray, List.getElem?_cons_succ, List.getElem?_cons_zero]; exact rfl
  · rfl
  · kernel_rfl
  · kernel_rfl
  · kernel_rfl
  · exact fun _ _ _ _ h => h
  apply Exists.intro
  apply And.intro
  · apply yr_run; rfl; intro w' hw'; go_simp; (try with_reducible rfl)
  simp only [Act.put, List.setIfInBounds_toArray, List.set_cons_zero, List.set_cons_succ]
  apply wpR_next 3 (some 6)
  · simp only [List.getElem?_toArray, List.getElem?_cons_succ, List.getElem?_cons_zero]; exact rfl
  · rfl
  · kernel_rfl
  · kernel_rfl
  · kernel_rfl
  · exact fun _ _ _ _ h => h
  apply Exists.intro
  apply And.intro
  · apply yr_run; rfl; intro w' hw'; go_simp; (try with_reducible rfl)
  simp only [Act.put, List.setIfInBounds_toArray, List.set_cons_zero, List.set_cons_succ]
  apply wpR_call 4 (some 7)
  · simp only [List.getElem?_toArray, List.getElem?_cons_succ, List.getElem?_cons_zero]; exact rfl
  · rfl
  · kernel_rfl
  · rfl
  · intro w'; go_simp; first | done | exact ⟨rfl, rfl⟩ | with_reducible rfl
  intro w' hw'
  refine (turn_any rA rn rc rL w' (HR1.out.dr.bl hw') hn).mono ?_
  rintro e w'' ⟨A2, c2, rfl, h2, hbl⟩
  have hr2 := (HR1.out.dr.bl hw').bl hbl
  have HQ : RowKit.Hid (∀ w1, Kept Nil_ w'' w1 → Calls Tryz.prog 69 #[.slice rA rn rc, .slice A2 (turnD rL).length c2] w1 fun e w3 => e = .returned (.bool b) ∧ Below w1.heap.size w1 w3) := Lib.hid (fun w1 hk => by
    have hB : Below w''.heap.size w'' w1 := hk.below (Nat.le_refl _) (fun _ _ h => h)
    have := sequal_any rA A2 rn (turnD rL).length rc c2 rL (turnD rL) w1 (hr2.bl hB) (h2.bl hB) (by omega)
    rw [Gb.out] at this
    exact this)
  refine ⟨_, rfl, Kept.of_below hbl, ?_⟩
  have HX : RowKit.Hid (Ext W1.drew w'') := Lib.hid (Ext.trans hw' hbl)
  obtain ⟨V2, gV2⟩ : ∃ x, w'' = x := ⟨_, rfl⟩
  obtain ⟨m2, gm2⟩ : ∃ x, (turnD rL).length = x := ⟨_, rfl⟩
  rw [gV2, gm2] at HQ
  rw [gV2] at HX ⊢
  rw [gm2]
  clear hw' hbl hr2 h2 gV2 gm2
  simp only [Act.put, List.setIfInBounds_toArray, List.set_cons_zero, List.set_cons_succ]
  apply wpR_next 5 (some 8)
  · simp only [List.getElem?_toArray, List.getElem?_cons_succ, List.getElem?_cons_zero]; exact rfl
  · rfl
  · kernel_rfl
  · kernel_rfl
  · kernel_rfl
  · exact fun _ _ _ _ h => h
  apply Exists.intro
  apply And.intro
  · apply yr_call; rfl; rotate_left; intro w' hw'; exact HQ.out w' hw'; intro w'; go_simp
  simp only [Act.put, List.setIfInBounds_toArray, List.set_cons_zero, List.set_cons_succ]
  apply wpR_next 6 (some 2)
  · simp only [List.getElem?_toArray, List.getElem?_cons_succ, List.getElem?_cons_zero]; exact rfl
  · rfl
  · kernel_rfl
  · kernel_rfl
  · kernel_rfl
  · exact fun _ _ _ _ h => h
  apply Exists.intro
  apply And.intro
  · apply yr_run; rfl; intro w' hw'; go_simp; (try with_reducible rfl)
  simp only [Act.put, List.setIfInBounds_toArray, List.set_cons_zero, List.set_cons_succ]
  refine wpR_done (by kernel_rfl) ?_ _
  intro W3 hw3
  have HB3 : RowKit.Hid (Below w.heap.size w W3) := Lib.hid (bel_bl (bel_dr (show Below w.heap.size w W1 by rw [Gg.out]; exact HB1'.out)) (Ext.trans HX.out hw3))
  clear hw3 ld1
  go_wp2
  go_ret
  exact ⟨rfl, HB3.out⟩
set_option maxRecDepth 100000 in
theorem turned_all (A : Option Addr) (n c : Nat) (Vs : List VC) (B : Option Addr) (m k : Nat) (Es : List EC) (w : World) (h : DgIn w A n c Vs B m k Es) (hn : n ≤ 1000000) (hr : ∀ x ∈ Vs, x.2.1.2.1 ≤ 1000000) :
    Calls Tryz.prog 47 #[.agg #[.slice A n c, .slice B m k]] w fun e w' => e = .returned (.bool (Vs.all turnOk)) ∧ Below w.heap.size w w' := by
  have HC := Lib.hid (allV 68 turnOk A n c Vs (w.alloc (.cells #[.slice A n c, .slice B m k] 25)) (h.v.al _) hn entVT fun v hv W hb => turnedV v W ((h.r v hv).below (below_after1 hb)) (hr v hv))
  obtain ⟨b, hb⟩ : ∃ b, Vs.all turnOk = b := ⟨_, rfl⟩
  rw [hb] at HC ⊢
  clear h hb hr
  go_enter Tryz.func47, Tryz.ntmps47
  go_wp2_with fail
  refine HC.out.mono ?_
  rintro e w3 ⟨rfl, hb⟩
  go_wp2
  go_ret
  exact ⟨rfl, below_after1 hb⟩
end Go.Proofs.YtahbfdhjgnlmdaaGreat

/- A dart as a key; a set of darts. -/
namespace Go.Proofs.YtahbfdhjgnlmdaaGreat
open Go.RowKit Go.Maps
set_option linter.unusedSimpArgs false
set_option linter.unusedVariables false

def wfD (d : D) : Prop := (Lit.int .i64 d.1).wf = true ∧ (Lit.int .i64 d.2.1).wf = true ∧ (Lit.int .i64 d.2.2).wf = true
def kD (d : D) : Lit := .string (keyBytes [.int .i64 d.1, .int .i64 d.2.1, .int .i64 d.2.2])
theorem wide_dart : (match Tryz.prog.underlying 49 with | some (.array _ _) | some (.struct _) => true | _ => false) = true := by rw [Tryz.underlying49]
theorem laid_prog : laidOutB Tryz.prog = true := by kernel_rfl
set_option maxRecDepth 100000 in
theorem law_dart : WideMaps.KeyLaw Tryz.prog 49 := deep_law_laid laid_prog (m := 3) (by omega) (by show 49 < Tryz.prog.types.size; rw [show Tryz.prog.types.size = Tryz.prog.types.size from rfl]; decide) (by kernel_rfl) wide_dart
theorem keyed_dart : Keyed Tryz.prog 49 := Keyed.of_law law_dart
theorem lits_dart (m : Nat) (d : D) (h : wfD d) : Tryz.prog.keyLits (m + 3) 49 (dC d) = some [.int .i64 d.1, .int .i64 d.2.1, .int .i64 d.2.2] := by
  obtain ⟨h1, h2, h3⟩ := h
  have c1 : Tryz.prog.cellsOf 49 = 3 := by kernel_rfl
  have c2 : Tryz.prog.cellsOf 41 = 2 := by kernel_rfl
  have c3 : Tryz.prog.cellsOf 3 = 1 := by kernel_rfl
  have i1 : ∀ (n : Nat) (x : Int), (Lit.int .i64 x).wf = true → Tryz.prog.keyLits (n + 1) 3 [.int .i64 x] = some [.int .i64 x] := fun n x hx => by simp [Program.keyLits, Tryz.underlying3, hx]
  have i2 : ∀ n, Tryz.prog.keyLits (n + 2) 41 [.int .i64 d.1, .int .i64 d.2.1] = some [.int .i64 d.1, .int .i64 d.2.1] := fun n => by
    unfold Program.keyLits
    simp only [Tryz.underlying41, c2]
    rw [if_pos ⟨rfl, by kernel_rfl⟩]
    simp [c3, i1, h1, h2]
  unfold Program.keyLits
  simp only [Tryz.underlying49, c1]
  rw [if_pos ⟨rfl, by kernel_rfl⟩]
  simp [c2, c3, i1, i2, h3, dC]
theorem key_dart (d : D) (h : wfD d) : keyOf Tryz.prog 49 (.agg (dC d).toArray) = some (kD d) := by
  have hk : Tryz.prog.keyType 49 = true := by kernel_rfl
  have c1 : Tryz.prog.cellsOf 49 = 3 := by kernel_rfl
  have hf : (Value.agg (dC d).toArray).formed Tryz.prog 49 = true := by simp [Value.formed, Tryz.underlying49, c1, dC]
  obtain ⟨m, hm⟩ : ∃ m, Tryz.prog.types.size + 1 = m + 3 := ⟨Tryz.prog.types.size - 2, by kernel_rfl⟩
  have hl := lits_dart m d h
  rw [← hm] at hl
  unfold keyOf
  simp only [Tryz.underlying49, hk, hf, Value.cells, Bool.and_self, if_true]
  rw [hl]
  rfl
theorem kD_inj {a b : D} (ha : wfD a) (hb : wfD b) (h : kD a = kD b) : a = b := by
  have := keyed_dart.inj (key_dart a ha) (by rw [h]; exact key_dart b hb)
  simp [dC] at this
  obtain ⟨a1, a2, a3⟩ := a
  obtain ⟨b1, b2, b3⟩ := b
  simp_all
theorem kD_key {a : D} (ha : wfD a) : WideAt.IsKeyLit (kD a) := keyed_dart.key (key_dart a ha)

/-- The datum is this set of darts. -/
structure SetD {H : Type} (Dt : DataW H) (S : List D) : Prop where
  tidy : Tidy Dt
  nd : S.Nodup
  wf : ∀ d ∈ S, wfD d
  size : Maps.size Dt = S.length
  has : ∀ d, wfD d → Maps.has Dt (kD d) = decide (d ∈ S)
def insD (d : D) (S : List D) : List D := if d ∈ S then S else d :: S
theorem SetD.empty {H : Type} : SetD (.map [] : DataW H) [] := ⟨tidy_empty, List.nodup_nil, by simp, rfl, fun d _ => by simp [Maps.has]⟩
theorem SetD.put {H : Type} {Dt : DataW H} {S : List D} (h : SetD Dt S) (d : D) (hd : wfD d) (u : DataW H) : SetD (Dt.put (kD d) u) (insD d S) := by
  have hm := h.has d hd
  refine ⟨h.tidy.put (kD_key hd) u, ?_, ?_, ?_, ?_⟩
  · unfold insD
    split
    · exact h.nd
    · rename_i hn; exact List.nodup_cons.2 ⟨hn, h.nd⟩
  · intro x hx
    unfold insD at hx
    split at hx
    · exact h.wf x hx
    · rcases List.mem_cons.1 hx with rfl | hx
      · exact hd
      · exact h.wf x hx
  · rw [size_put h.tidy, hm, h.size]
    unfold insD
    split <;> simp_all
  · intro x hx
    by_cases e : x = d
    · subst e
      rw [has_put_same h.tidy.isMap (kD_key hd)]
      unfold insD
      split <;> simp_all
    · rw [has_put_other (fun e' => e (kD_inj hx hd e')), h.has x hx]
      unfold insD
      split <;> simp_all
theorem SetD.del {H : Type} {Dt : DataW H} {S : List D} (h : SetD Dt S) (d : D) (hd : wfD d) (hm : d ∈ S) : SetD (Dt.del (kD d)) (S.erase d) := by
  have hh : Maps.has Dt (kD d) = true := by rw [h.has d hd]; exact decide_eq_true hm
  refine ⟨h.tidy.del _, h.nd.erase _, fun x hx => h.wf x (List.mem_of_mem_erase hx), ?_, ?_⟩
  · have h1 := size_del (k := kD d) h.tidy
    have h2 := List.length_erase_of_mem hm
    have h3 := List.length_pos_of_mem hm
    rw [hh] at h1
    simp only [if_true] at h1
    have := h.size
    omega
  · intro x hx
    by_cases e : x = d
    · subst e
      rw [has_del_same]
      exact (decide_eq_false (fun hc => by have := (h.nd.mem_erase_iff).1 hc; exact this.1 rfl)).symm
    · rw [has_del_other (fun e' => e (kD_inj hx hd e')), h.has x hx]
      rw [decide_eq_decide, h.nd.mem_erase_iff]
      simp [e]
end Go.Proofs.YtahbfdhjgnlmdaaGreat

/- eachOnce: just the darts of the edges stand in rings, each once. -/
namespace Go.Proofs.YtahbfdhjgnlmdaaGreat
open Go.RowKit Go.Maps
set_option linter.unusedSimpArgs false
set_option linter.unusedVariables false

def onceF : List D → List D → Bool
  | S, [] => decide (S.length = 0)
  | S, x :: r => if x ∈ S then onceF (S.erase x) r else false
def edS : List EC → List D → List D
  | [], S => S
  | e :: r, S => edS r (insD (e.1.1, e.1.2, 1) (insD (e.1.1, e.1.2, 0) S))
def ringsOf (Vs : List VC) : List D := Vs.flatMap (·.2.1.2.2.2)
theorem bel_grown {w W w1 : World} {b : Nat} (h : Below w.heap.size w W) (hg : W.grownBy w1 (some b)) (hb : w.heap.size ≤ b) : Below w.heap.size w w1 :=
  ⟨hg.os.trans h.os, hg.tape.trans h.tape, hg.output.trans h.output, Nat.le_trans h.size hg.size, fun i hi => (hg.block i (Nat.lt_of_lt_of_le hi h.size) (by intro e; cases e; omega)).trans (h.block i hi)⟩
theorem whole_grown {W w1 : World} {b g : Nat} {t : TypeId} {cs : List Value} (h : Whole W g t cs) (hg : W.grownBy w1 (some b)) (hne : g ≠ b) : Whole w1 g t cs :=
  h.at_ (hg.block g h.lt (by intro e; cases e; exact hne rfl))
theorem zero_unit (w : World) : (zeroValue 100).run Tryz.prog w = .ok (.agg #[]) w := by
  obtain ⟨i, hi, hz⟩ : ∃ i, Tryz.prog.info? 100 = some i ∧ i.zero = some (.agg #[]) := by
    have h : (Tryz.prog.info? 100).map (·.zero) = some (some (.agg #[])) := by kernel_rfl
    cases h2 : Tryz.prog.info? 100 with
    | none => rw [h2] at h; cases h
    | some i => rw [h2] at h; exact ⟨i, rfl, by simpa using h⟩
  simp [zeroValue, typeInfo, hi, hz]
/-- The map in block b of wr is this set of darts. -/
def MapS (wr : World) (b n : Nat) (S : List D) : Prop := ∃ Dt : DataW Unit, wr.ownsMap Tryz.prog 49 unitElem b n Dt ∧ SetD Dt S
theorem MapS.alloc {w : World} {b n : Nat} {S : List D} (h : MapS w b n S) (o : Obj) : MapS (w.alloc o) b n S := let ⟨Dt, h1, h2⟩ := h; ⟨Dt, h1.alloc o, h2⟩
theorem MapS.mono {w : World} {b n n' : Nat} {S : List D} (h : MapS w b n S) (hn : n ≤ n') : MapS w b n' S := let ⟨Dt, h1, h2⟩ := h; ⟨Dt, h1.mono hn, h2⟩
theorem MapS.lt {w : World} {b n : Nat} {S : List D} (h : MapS w b n S) : b < w.heap.size := let ⟨_, h1, _⟩ := h; h1.lt
section
variable {ops : Array Oper} {rest : List Oper} {o : Oper} {a : Act} {Q : Exit → Act → World → Prop} {w : World}
theorem wl_put (hg : o.guard = none) (m x v : Operand) (hop : o.op = Op.mapUpdate 99 m x v) (b n : Nat) (S : List D) (hm : a.eval m = .map (some b)) (hS : MapS w b n S) (hn : n < maxLen) (d : D) (hd : wfD d)
    (hx : a.eval x = .agg #[.int .i64 d.1, .int .i64 d.2.1, .int .i64 d.2.2]) (hv : a.eval v = .agg #[])
    (hK : ∀ w', MapS w' b (n + 1) (insD d S) → w.grownBy w' (some b) → wpList Tryz.prog ops Q rest (a.put o.dst undef) w') : wpList Tryz.prog ops Q (o :: rest) a w := by
  obtain ⟨Dt, h1, h2⟩ := hS
  exact wpList_mapUpdate_own w hg m x v 99 hop 49 100 keyed_dart Tryz.underlying99 unitElem b n Dt hm h1 hn _ _ (kD d) hx hv (key_dart d hd) (.agg []) [] unitElem_mk
    fun w' r1 r2 => hK w' ⟨_, r1, h2.put d hd _⟩ r2
theorem wl_has (hg : o.guard = none) (m x : Operand) (hop : o.op = Op.lookup 99 m x true) (b n : Nat) (S : List D) (hm : a.eval m = .map (some b)) (hS : MapS w b n S) (d : D) (hd : wfD d)
    (hx : a.eval x = .agg #[.int .i64 d.1, .int .i64 d.2.1, .int .i64 d.2.2])
    (hK : wpList Tryz.prog ops Q rest (a.put o.dst (.tuple #[.agg #[], .bool (decide (d ∈ S))])) w) : wpList Tryz.prog ops Q (o :: rest) a w := by
  obtain ⟨Dt, h1, h2⟩ := hS
  exact wpList_lookup_own_unit w hg m x 99 hop 49 100 keyed_dart Tryz.underlying99 (zero_unit w) b n Dt hm h1 _ (kD d) hx (key_dart d hd) (by rw [h2.has d hd]; exact hK)
theorem wl_del (hg : o.guard = none) (m x : Operand) (hop : o.op = Op.call { callee := Callee.builtin Builtin.delete, args := #[m, x], argTypes := #[99, 49] }) (b n : Nat) (S : List D) (hm : a.eval m = .map (some b)) (hS : MapS w b n S)
    (d : D) (hd : wfD d) (hmem : d ∈ S) (hx : a.eval x = .agg #[.int .i64 d.1, .int .i64 d.2.1, .int .i64 d.2.2])
    (hK : ∀ w', MapS w' b n (S.erase d) → w.grownBy w' (some b) → wpList Tryz.prog ops Q rest (a.put o.dst (.tuple #[])) w') : wpList Tryz.prog ops Q (o :: rest) a w := by
  obtain ⟨Dt, h1, h2⟩ := hS
  exact wpList_delete_own w hg m x 99 49 hop 100 keyed_dart Tryz.underlying99 unitElem b n Dt hm h1 _ (kD d) hx (key_dart d hd)
    fun w' r1 r2 => hK w' ⟨_, r1, h2.del d hd hmem⟩ r2.grown
theorem wl_size (hg : o.guard = none) (m : Operand) (hop : o.op = Op.call { callee := Callee.builtin Builtin.len, args := #[m], argTypes := #[99] }) (b n : Nat) (S : List D) (hm : a.eval m = .map (some b)) (hS : MapS w b n S)
    (hK : wpList Tryz.prog ops Q rest (a.put o.dst (.int .i64 (S.length : Int))) w) : wpList Tryz.prog ops Q (o :: rest) a w := by
  obtain ⟨Dt, h1, h2⟩ := hS
  refine wpList_len_own w hg m 99 hop 49 100 Tryz.underlying99 unitElem b n Dt hm h1 ?_
  rw [h2.size]
  exact hK
end
end Go.Proofs.YtahbfdhjgnlmdaaGreat

/- eachOnce: the walk. -/
namespace Go.Proofs.YtahbfdhjgnlmdaaGreat
open Go.RowKit Go.Maps
set_option linter.unusedSimpArgs false
set_option linter.unusedVariables false

theorem wl_has_as {ops : Array Oper} {rest : List Oper} {o : Oper} {a : Act} {Q : Exit → Act → World → Prop} {w : World} (hg : o.guard = none) (m x : Operand) (hop : o.op = Op.lookup 99 m x true) (b n : Nat) (S : List D) (hm : a.eval m = .map (some b)) (hS : MapS w b n S) (d : D) (hd : wfD d) {bb : Bool} (hb : decide (d ∈ S) = bb)
    (hx : a.eval x = .agg #[.int .i64 d.1, .int .i64 d.2.1, .int .i64 d.2.2])
    (hK : wpList Tryz.prog ops Q rest (a.put o.dst (.tuple #[.agg #[], .bool bb])) w) : wpList Tryz.prog ops Q (o :: rest) a w := by
  subst hb
  exact wl_has hg m x hop b n S hm hS d hd hx hK
theorem ringsOf_cons (v : VC) (r : List VC) : ringsOf (v :: r) = v.2.1.2.2.2 ++ ringsOf r := rfl
set_option maxRecDepth 100000 in
set_option maxHeartbeats 4000000 in
theorem once_any (A : Option Addr) (n c : Nat) (Vs : List VC) (B : Option Addr) (m k : Nat) (Es : List EC) (w : World) (h : DgIn w A n c Vs B m k Es) (hn : n ≤ 1000000) (hm : m ≤ 1000000) (hr : ∀ x ∈ Vs, x.2.1.2.1 ≤ 1000000)
    (he : ∀ e ∈ Es, wfD (e.1.1, e.1.2, 0) ∧ wfD (e.1.1, e.1.2, 1)) (hv : ∀ v ∈ Vs, ∀ d ∈ v.2.1.2.2.2, wfD d) :
    Calls Tryz.prog 48 #[.agg #[.slice A n c, .slice B m k]] w fun e w' => e = .returned (.bool (onceF (edS Es []) (ringsOf Vs))) ∧ Below w.heap.size w w' := by
  have HV := Lib.hid h.v
  have HE := Lib.hid h.e
  have HRg := Lib.hid h.r
  have Hlv := Lib.hid (h.v.rlen vC_len (by decide))
  have Hle := Lib.hid (h.e.rlen eC_len (by decide))
  have Hhe := Lib.hid he
  have Hhv := Lib.hid hv
  have Hhr := Lib.hid hr
  obtain ⟨G, gG⟩ : ∃ x, onceF (edS Es []) (ringsOf Vs) = x := ⟨_, rfl⟩
  rw [gG]
  have HG := Lib.hid gG
  clear h he hv hr gG
  have hmm := @run_makeMap Tryz.prog
  go_enter Tryz.func48, Tryz.ntmps48
  go_wp2
  clear hmm
  have hBox := (Whole.new_ w 25 [.slice A n c, .slice B m k]).alloc (.map #[] 0)
  have hMap : MapS ((w.alloc (.cells #[.slice A n c, .slice B m k] 25)).alloc (.map #[] 0)) (w.heap.size + 1) 0 [] := ⟨_, by simpa using World.ownsMap_made (H := Unit) (w.alloc (.cells #[.slice A n c, .slice B m k] 25)) Tryz.prog 49 unitElem, SetD.empty⟩
  have hBel := below2 w (.cells #[.slice A n c, .slice B m k] 25) (.map #[] 0)
  obtain ⟨W0, gW0⟩ : ∃ z, (w.alloc (.cells #[.slice A n c, .slice B m k] 25)).alloc (.map #[] 0) = z := ⟨_, rfl⟩
  have HB0 : RowKit.Hid (Below w.heap.size w W0) := Lib.hid (by rw [← gW0]; exact hBel)
  obtain ⟨b1, gb1⟩ : ∃ z, w.heap.size + 1 = z := ⟨_, rfl⟩
  obtain ⟨b0, gb0⟩ : ∃ z, w.heap.size = z := ⟨_, rfl⟩
  rw [gW0, gb0] at hBox
  rw [gW0, gb1] at hMap
  have HBox := Lib.hid hBox
  have HMap := Lib.hid hMap
  have Gb0 := Lib.hid gb0
  have Gb1 := Lib.hid gb1
  have h01 : b0 ≠ b1 := by omega
  rw [gW0, gb1, gb0]
  clear hBox hMap hBel gW0 gb0 gb1
  go_loopw [16] (fun si wr => ∃ (j : Nat) (S : List D), j ≤ m ∧ si = .int .i64 j ∧ RowKit.Hid (MapS wr b1 (2 * j) S) ∧ RowKit.Hid (Whole wr b0 25 [.slice A n c, .slice B m k]) ∧ RowKit.Hid (Below w.heap.size w wr) ∧ RowKit.Hid (edS Es [] = edS (Es.drop j) S)) (fun si _ => m - (intOf si).toNat)
  case atStart => exact ⟨0, [], by omega, rfl, HMap, HBox, HB0, Lib.hid rfl⟩
  case round =>
    clear HBox HMap HB0
    obtain ⟨j, S, hj, rfl, HM, HW, HB, HS⟩ := hrel
    by_cases hjm : j < m
    · obtain ⟨wo, gwo⟩ : ∃ z, wr = z := ⟨_, rfl⟩
      rw [gwo] at HM HW HB ⊢
      clear gwo
      obtain ⟨v, hx⟩ : ∃ v, Es[j]? = some v := ⟨_, List.getElem?_eq_getElem (by have := Hle.out; omega)⟩
      have hdr : Es.drop j = v :: Es.drop (j + 1) := by
        rw [List.drop_eq_getElem_cons (List.getElem?_eq_some_iff.1 hx).1, (List.getElem?_eq_some_iff.1 hx).2]
      obtain ⟨hw0, hw1⟩ := Hhe.out v (List.mem_of_getElem? hx)
      have HS2 := HS.out
      rw [hdr, edS] at HS2
      have HS3 := Lib.hid HS2
      obtain ⟨bb, off, rfl, hbB, hpl⟩ := HE.out.place eC_len (by decide) (by omega)
      have hbw := HB.out
      have q0 := hpl j _ hx 0 _ rfl
      have q1 := hpl j _ hx 1 _ rfl
      have q2 := hpl j _ hx 2 _ rfl
      have q3 := hpl j _ hx 3 _ rfl
      simp only [Addr.add_lit, Nat.add_zero] at q0 q1 q2 q3
      have l0 := (hbw.cell (p := ⟨bb, off + j * 4, none⟩) hbB).trans q0
      have l1 := (hbw.cell (p := ⟨bb, off + j * 4 + 1, none⟩) hbB).trans q1
      have l2 := (hbw.cell (p := ⟨bb, off + j * 4 + 2, none⟩) hbB).trans q2
      have l3 := (hbw.cell (p := ⟨bb, off + j * 4 + 3, none⟩) hbB).trans q3
      obtain ⟨⟨i1, i2⟩, lb, at_⟩ := v
      have Hw0 := Lib.hid hw0
      have Hw1 := Lib.hid hw1
      have hne : wo.heap.size ≠ b1 := by
        have := HM.out.lt
        omega
      clear hx hdr HS2 hpl hbw q0 q1 q2 q3 hbB HS hw0 hw1
      go_wp2_with (first
        | (at_mapUpdate
           refine wl_put rfl _ _ _ rfl b1 (2 * j) S rfl (by exact HM.out.alloc _) (by unfold maxLen; omega) (i1, i2, 0) Hw0.out rfl rfl ?_
           intro w1 hm1 hg1
           have hx1 := whole_grown (Whole.new_ wo 43 [.int .i64 i1, .int .i64 i2, .string lb, .int .i64 at_]) hg1 hne
           have HW1 := Lib.hid (whole_grown (HW.out.alloc (.cells #[.int .i64 i1, .int .i64 i2, .string lb, .int .i64 at_] 43)) hg1 h01)
           have HB1 := Lib.hid (bel_grown (bel_al HB.out (.cells #[.int .i64 i1, .int .i64 i2, .string lb, .int .i64 at_] 43)) hg1 (by have := Gb1.out; omega))
           have HM1 := Lib.hid hm1
           have c0 := hx1.cell (i := 0) rfl
           have c1 := hx1.cell (i := 1) rfl
           clear hx1 hm1 hg1)
        | (at_mapUpdate
           refine wl_put rfl _ _ _ rfl b1 (2 * j + 1) _ rfl (by exact HM1.out) (by unfold maxLen; omega) (i1, i2, 1) Hw1.out rfl rfl ?_
           intro w2 hm2 hg2
           have HW2 := Lib.hid (whole_grown HW1.out hg2 h01)
           have HB2 := Lib.hid (bel_grown HB1.out hg2 (by have := Gb1.out; omega))
           have HM2 := Lib.hid (hm2.mono (show 2 * j + 1 + 1 ≤ 2 * (j + 1) by omega))
           clear hm2 hg2 c0 c1))
      go_roundw
      case rel => exact ⟨j + 1, _, by omega, by go_num, HM2, HW2, HB2, HS3⟩
      case measure => simp [intOf]; omega
    · obtain rfl : m = j := by omega
      obtain ⟨wo, gwo⟩ : ∃ z, wr = z := ⟨_, rfl⟩
      rw [gwo] at HM HW HB ⊢
      clear gwo
      have hS := HS.out
      rw [List.drop_eq_nil_of_le (by have := Hle.out; omega), edS] at hS
      have HG2 : RowKit.Hid (G = onceF S (ringsOf (Vs.drop 0))) := Lib.hid (by rw [← hS, ← HG.out]; rfl)
      have c0 := HW.out.cell (i := 0) rfl
      have c1 := HW.out.cell (i := 1) rfl
      clear hS HS HG
      go_wp2
      clear c0 c1 HW
      go_loopw [34] (fun si wr => ∃ (i : Nat) (S : List D), i ≤ n ∧ si = .int .i64 i ∧ RowKit.Hid (MapS wr b1 (2 * m) S) ∧ RowKit.Hid (Below w.heap.size w wr) ∧ RowKit.Hid (G = onceF S (ringsOf (Vs.drop i)))) (fun si _ => n - (intOf si).toNat)
      case atStart => exact ⟨0, S, by omega, rfl, HM, HB, HG2⟩
      case round =>
        clear HM HB HG2
        obtain ⟨i, S, hi, rfl, HM, HB, HG⟩ := hrel
        by_cases hin : i < n
        · obtain ⟨wo, gwo⟩ : ∃ z, wr = z := ⟨_, rfl⟩
          rw [gwo] at HM HB ⊢
          clear gwo
          obtain ⟨v, hx⟩ : ∃ v, Vs[i]? = some v := ⟨_, List.getElem?_eq_getElem (by have := Hlv.out; omega)⟩
          have hdr : Vs.drop i = v :: Vs.drop (i + 1) := by
            rw [List.drop_eq_getElem_cons (List.getElem?_eq_some_iff.1 hx).1, (List.getElem?_eq_some_iff.1 hx).2]
          have hvm := List.mem_of_getElem? hx
          have hrg := HRg.out v hvm
          have hrn := Hhr.out v hvm
          have hwf := Hhv.out v hvm
          have HG2 := HG.out
          rw [hdr, ringsOf_cons] at HG2
          have HG3 := Lib.hid HG2
          obtain ⟨bb, off, rfl, hbB, hpl⟩ := HV.out.place vC_len (by decide) (by omega)
          have hbw := HB.out
          have q0 := hpl i _ hx 0 _ rfl
          have q1 := hpl i _ hx 1 _ rfl
          have q2 := hpl i _ hx 2 _ rfl
          have q3 := hpl i _ hx 3 _ rfl
          have q4 := hpl i _ hx 4 _ rfl
          simp only [Addr.add_lit, Nat.add_zero] at q0 q1 q2 q3 q4
          have l0 := (hbw.cell (p := ⟨bb, off + i * 5, none⟩) hbB).trans q0
          have l1 := (hbw.cell (p := ⟨bb, off + i * 5 + 1, none⟩) hbB).trans q1
          have l2 := (hbw.cell (p := ⟨bb, off + i * 5 + 2, none⟩) hbB).trans q2
          have l3 := (hbw.cell (p := ⟨bb, off + i * 5 + 3, none⟩) hbB).trans q3
          have l4 := (hbw.cell (p := ⟨bb, off + i * 5 + 4, none⟩) hbB).trans q4
          obtain ⟨⟨i1, i2⟩, ⟨rA, rn, rc, rL⟩, lb, at_⟩ := v
          have hR : RdS w w.heap.size 3 rA rn rc (dartsV rL) := hrg.2
          replace hrn : rn ≤ 1000000 := hrn
          replace hwf : ∀ d ∈ rL, wfD d := hwf
          have HR := Lib.hid hR
          have Hlr := Lib.hid hR.dlen
          have Hwf := Lib.hid hwf
          obtain ⟨rest, gr⟩ : ∃ x, ringsOf (Vs.drop (i + 1)) = x := ⟨_, rfl⟩
          have HG4 : RowKit.Hid (G = onceF S (rL.drop 0 ++ rest)) := Lib.hid (by rw [← gr]; exact HG2)
          have Gr := Lib.hid gr
          have HMa := Lib.hid (HM.out.alloc (.cells #[.int .i64 i1, .int .i64 i2, .slice rA rn rc, .string lb, .int .i64 at_] 47))
          have HBa := Lib.hid (bel_al HB.out (.cells #[.int .i64 i1, .int .i64 i2, .slice rA rn rc, .string lb, .int .i64 at_] 47))
          clear hx hdr HG2 HG3 hpl hbw q0 q1 q2 q3 q4 hbB HG hvm hrg hR hwf gr
          go_wp2
          clear l0 l1 l2 l3 l4 HM HB
          go_loopw [41] (fun sj wr => ∃ (j : Nat) (S : List D), j ≤ rn ∧ sj = .int .i64 j ∧ RowKit.Hid (MapS wr b1 (2 * m) S) ∧ RowKit.Hid (Below w.heap.size w wr) ∧ RowKit.Hid (G = onceF S (rL.drop j ++ rest))) (fun sj _ => rn - (intOf sj).toNat)
          case atStart => exact ⟨0, S, by omega, rfl, HMa, HBa, HG4⟩
          case round =>
            clear HMa HBa HG4
            obtain ⟨j, S, hj, rfl, HM, HB, HG⟩ := hrel
            by_cases hjr : j < rn
            · obtain ⟨wi, gwi⟩ : ∃ z, wr = z := ⟨_, rfl⟩
              rw [gwi] at HM HB ⊢
              clear gwi
              obtain ⟨b, of2, rfl, hb, hc⟩ := (HR.out.up HB.out HB.out.size).darts (by omega)
              have hjl : j < rL.length := by have := Hlr.out; omega
              obtain ⟨d1, d2, d3⟩ := hc j hjl
              obtain ⟨x, gx⟩ : ∃ v, rL.getD j (0, 0, 0) = v := ⟨_, rfl⟩
              have gx2 : rL[j] = x := by rw [← gx, List.getD_eq_getElem?_getD, List.getElem?_eq_getElem hjl]; rfl
              have hxm : x ∈ rL := by rw [← gx2]; exact List.getElem_mem hjl
              have hdr : rL.drop j = x :: rL.drop (j + 1) := by rw [List.drop_eq_getElem_cons hjl, gx2]
              have Hx := Lib.hid (Hwf.out x hxm)
              rw [gx] at d1 d2 d3
              have HG2 := HG.out
              rw [hdr, List.cons_append, onceF] at HG2
              obtain ⟨x1, x2, x3⟩ := x
              obtain ⟨t, ht⟩ : ∃ t, decide ((x1, x2, x3) ∈ S) = t := ⟨_, rfl⟩
              have Ht := Lib.hid ht
              have HG3 := Lib.hid HG2
              clear hc hb gx gx2 hxm hdr hjl HG HG2 ht
              cases t with
              | false =>
                have hG : G = false := by
                  have := HG3.out
                  rw [if_neg (by simpa using Ht.out)] at this
                  exact this
                go_wp2_with (first
                  | (at_lookup
                     refine wl_has_as rfl _ _ rfl b1 (2 * m) S rfl (by exact HM.out.alloc _) (x1, x2, x3) Hx.out Ht.out rfl ?_))
                go_ret
                exact ⟨by first | exact rfl | (rw [hG]; rfl), by first | exact bel_al (bel_al HB.out _) _ | exact bel_al HB.out _⟩
              | true =>
                have HG4 : RowKit.Hid (G = onceF (S.erase (x1, x2, x3)) (rL.drop (j + 1) ++ rest)) := Lib.hid (by
                  have := HG3.out
                  rw [if_pos (by simpa using Ht.out)] at this
                  exact this)
                have hmem : (x1, x2, x3) ∈ S := by simpa using Ht.out
                have Hmem := Lib.hid hmem
                clear hmem
                go_wp2_with (first
                  | (at_lookup
                     refine wl_has_as rfl _ _ rfl b1 (2 * m) S rfl (by exact HM.out.alloc _) (x1, x2, x3) Hx.out Ht.out rfl ?_)
                  | (at_delete
                     refine wl_del rfl _ _ rfl b1 (2 * m) S rfl (by exact (HM.out.alloc _).alloc _) (x1, x2, x3) Hx.out Hmem.out rfl ?_
                     intro w3 hm3 hg3
                     have HM3 := Lib.hid hm3
                     have HB3 := Lib.hid (bel_grown (bel_al (bel_al HB.out _) _) hg3 (by have := Gb1.out; omega))
                     clear hm3 hg3))
                go_roundw
                case rel => exact ⟨j + 1, _, by omega, by go_num, HM3, HB3, HG4⟩
                case measure => simp [intOf]; omega
            · obtain rfl : rn = j := by omega
              have HG4 : RowKit.Hid (G = onceF S (ringsOf (Vs.drop (i + 1)))) := Lib.hid (by
                have h1 := HG.out
                rw [List.drop_eq_nil_of_le (by have := Hlr.out; omega), List.nil_append, ← Gr.out] at h1
                exact h1)
              clear HG
              go_wp2
              go_roundw
              case rel => exact ⟨i + 1, S, by omega, by go_num, HM, HB, HG4⟩
              case measure => simp [intOf]; omega
        · obtain rfl : n = i := by omega
          have hG := HG.out
          rw [List.drop_eq_nil_of_le (by have := Hlv.out; omega)] at hG
          replace hG : G = decide (S.length = 0) := hG
          clear HG
          obtain ⟨N, gN⟩ : ∃ z, S.length = z := ⟨_, rfl⟩
          rw [gN] at hG
          have HGN := Lib.hid hG
          clear hG
          go_wp2_with (first
            | (at_len
               refine wl_size rfl _ rfl b1 (2 * m) S rfl (by exact HM.out) ?_
               rw [gN]))
          go_ret
          refine ⟨?_, HB.out⟩
          rw [HGN.out]
          have e1 : ((N : Int) == 0) = decide (N = 0) := by rw [Bool.eq_iff_iff]; simp
          rw [← e1]
          rfl
end Go.Proofs.YtahbfdhjgnlmdaaGreat

/- Form. -/
namespace Go.Proofs.YtahbfdhjgnlmdaaGreat
open Go.RowKit
set_option linter.unusedSimpArgs false
set_option linter.unusedVariables false

def formB (big b0 b1 b2 b3 b4 b5 b6 b7 : Bool) : Int :=
  if big then 3 else if !(b0 && b1 && b2 && b3) then 10 else if !(b4 && b5) then 4 else if !(b6 && b7) then 1 else 0
/-- What is wrong with a diagram. -/
def formD (Vs : List VC) (Es : List EC) : Int :=
  formB (decide (24 < Vs.length ∨ 40 < Es.length)) (riseF none (Vs.map (·.1))) (riseF none (Es.map (·.1))) (Vs.all turnOk) (onceF (edS Es []) (ringsOf Vs))
    (Vs.all (fun v => mayL v.2.2.1)) (Es.all (fun v => mayL v.2.1)) (Vs.all (fun v => mayA v.2.2.2)) (Es.all (fun v => mayA v.2.2))
set_option maxRecDepth 100000 in
set_option maxHeartbeats 4000000 in
theorem form_any (A : Option Addr) (n c : Nat) (Vs : List VC) (B : Option Addr) (m k : Nat) (Es : List EC) (w : World) (h : DgIn w A n c Vs B m k Es) (hr : ∀ x ∈ Vs, x.2.1.2.1 ≤ 1000000)
    (he : ∀ e ∈ Es, wfD (e.1.1, e.1.2, 0) ∧ wfD (e.1.1, e.1.2, 1)) (hv : ∀ v ∈ Vs, ∀ d ∈ v.2.1.2.2.2, wfD d) :
    Calls Tryz.prog 27 #[.agg #[.slice A n c, .slice B m k]] w fun e w' => e = .returned (.int .i64 (formD Vs Es)) ∧ Below w.heap.size w w' := by
  have hlv := h.v.rlen vC_len (by decide)
  have hle := h.e.rlen eC_len (by decide)
  unfold formD
  rw [hlv, hle]
  have k0 : n ≤ 24 → m ≤ 40 → ∀ W, Below w.heap.size w W → Calls Tryz.prog 43 #[.slice A n c, .func (.func 44) #[] #[]] W fun e w' => e = .returned (.bool (riseF none (Vs.map (·.1)))) ∧ Below W.heap.size W w' := fun hn hm W hb => riseV A n c Vs W (h.v.up hb hb.size) (by omega)
  have k1 : n ≤ 24 → m ≤ 40 → ∀ W, Below w.heap.size w W → Calls Tryz.prog 45 #[.slice B m k, .func (.func 46) #[] #[]] W fun e w' => e = .returned (.bool (riseF none (Es.map (·.1)))) ∧ Below W.heap.size W w' := fun hn hm W hb => riseE B m k Es W (h.e.up hb hb.size) (by omega)
  have k2 : n ≤ 24 → m ≤ 40 → ∀ W, Below w.heap.size w W → Calls Tryz.prog 47 #[.agg #[.slice A n c, .slice B m k]] W fun e w' => e = .returned (.bool (Vs.all turnOk)) ∧ Below W.heap.size W w' := fun hn hm W hb => turned_all A n c Vs B m k Es W (h.below hb) (by omega) hr
  have k3 : n ≤ 24 → m ≤ 40 → ∀ W, Below w.heap.size w W → Calls Tryz.prog 48 #[.agg #[.slice A n c, .slice B m k]] W fun e w' => e = .returned (.bool (onceF (edS Es []) (ringsOf Vs))) ∧ Below W.heap.size W w' := fun hn hm W hb => once_any A n c Vs B m k Es W (h.below hb) (by omega) (by omega) hr he hv
  have k4 : n ≤ 24 → m ≤ 40 → ∀ W, Below w.heap.size w W → Calls Tryz.prog 49 #[.slice A n c, .func (.func 50) #[] #[]] W fun e w' => e = .returned (.bool (Vs.all (fun v => mayL v.2.2.1))) ∧ Below W.heap.size W w' := fun hn hm W hb => allV 50 _ A n c Vs W (h.v.up hb hb.size) (by omega) entVL (fun v _ W' _ => labelV v W')
  have k5 : n ≤ 24 → m ≤ 40 → ∀ W, Below w.heap.size w W → Calls Tryz.prog 51 #[.slice B m k, .func (.func 52) #[] #[]] W fun e w' => e = .returned (.bool (Es.all (fun v => mayL v.2.1))) ∧ Below W.heap.size W w' := fun hn hm W hb => allE 52 _ B m k Es W (h.e.up hb hb.size) (by omega) entEL (fun v _ W' _ => labelE v W')
  have k6 : n ≤ 24 → m ≤ 40 → ∀ W, Below w.heap.size w W → Calls Tryz.prog 49 #[.slice A n c, .func (.func 53) #[] #[]] W fun e w' => e = .returned (.bool (Vs.all (fun v => mayA v.2.2.2))) ∧ Below W.heap.size W w' := fun hn hm W hb => allV 53 _ A n c Vs W (h.v.up hb hb.size) (by omega) entVA (fun v _ W' _ => attrV v W')
  have k7 : n ≤ 24 → m ≤ 40 → ∀ W, Below w.heap.size w W → Calls Tryz.prog 51 #[.slice B m k, .func (.func 54) #[] #[]] W fun e w' => e = .returned (.bool (Es.all (fun v => mayA v.2.2))) ∧ Below W.heap.size W w' := fun hn hm W hb => allE 54 _ B m k Es W (h.e.up hb hb.size) (by omega) entEA (fun v _ W' _ => attrE v W')
  obtain ⟨b0, g0⟩ : ∃ b, riseF none (Vs.map (·.1)) = b := ⟨_, rfl⟩
  rw [g0] at k0 ⊢
  clear g0
  obtain ⟨b1, g1⟩ : ∃ b, riseF none (Es.map (·.1)) = b := ⟨_, rfl⟩
  rw [g1] at k1 ⊢
  clear g1
  obtain ⟨b2, g2⟩ : ∃ b, Vs.all turnOk = b := ⟨_, rfl⟩
  rw [g2] at k2 ⊢
  clear g2
  obtain ⟨b3, g3⟩ : ∃ b, onceF (edS Es []) (ringsOf Vs) = b := ⟨_, rfl⟩
  rw [g3] at k3 ⊢
  clear g3
  obtain ⟨b4, g4⟩ : ∃ b, Vs.all (fun v => mayL v.2.2.1) = b := ⟨_, rfl⟩
  rw [g4] at k4 ⊢
  clear g4
  obtain ⟨b5, g5⟩ : ∃ b, Es.all (fun v => mayL v.2.1) = b := ⟨_, rfl⟩
  rw [g5] at k5 ⊢
  clear g5
  obtain ⟨b6, g6⟩ : ∃ b, Vs.all (fun v => mayA v.2.2.2) = b := ⟨_, rfl⟩
  rw [g6] at k6 ⊢
  clear g6
  obtain ⟨b7, g7⟩ : ∃ b, Es.all (fun v => mayA v.2.2) = b := ⟨_, rfl⟩
  rw [g7] at k7 ⊢
  clear g7
  clear h hr he hv hlv hle
  have hw0 := Whole.new_ w 25 [.slice A n c, .slice B m k]
  have hb0 := below1 w (.cells #[.slice A n c, .slice B m k] 25)
  obtain ⟨W0, gW0⟩ : ∃ z, w.alloc (.cells #[.slice A n c, .slice B m k] 25) = z := ⟨_, rfl⟩
  have HB0 : RowKit.Hid (Below w.heap.size w W0) := Lib.hid (by rw [← gW0]; exact hb0)
  obtain ⟨g, gg⟩ : ∃ z, w.heap.size = z := ⟨_, rfl⟩
  rw [gW0, gg] at hw0
  have c0 := hw0.cell (i := 0) rfl
  have c1 := hw0.cell (i := 1) rfl
  have HW0 := Lib.hid hw0
  by_cases hn : n ≤ 24
  · by_cases hm : m ≤ 40
    · have hbig : decide (24 < n ∨ 40 < m) = false := decide_eq_false (by omega)
      rw [hbig]
      have K0 := Lib.hid (k0 hn hm)
      have K1 := Lib.hid (k1 hn hm)
      have K2 := Lib.hid (k2 hn hm)
      have K3 := Lib.hid (k3 hn hm)
      have K4 := Lib.hid (k4 hn hm)
      have K5 := Lib.hid (k5 hn hm)
      have K6 := Lib.hid (k6 hn hm)
      have K7 := Lib.hid (k7 hn hm)
      clear k0 k1 k2 k3 k4 k5 k6 k7 hbig hw0 hb0
      go_enter Tryz.func27, Tryz.ntmps27
      go_wp2_with fail
      clear gW0 gg
      refine (K0.out _ HB0.out).mono ?_
      rintro e W1 ⟨rfl, hb⟩
      have HB1 := Lib.hid (bel_bl HB0.out hb)
      have HW1 := Lib.hid (HW0.out.below hb)
      clear hb c0 c1 HB0 HW0 K0
      have c0 := HW1.out.cell (i := 0) rfl
      have c1 := HW1.out.cell (i := 1) rfl
      cases b0 with
      | false =>
        go_wp2
        go_ret
        exact ⟨rfl, HB1.out⟩
      | true =>
        go_wp2_with fail
        refine (K1.out _ HB1.out).mono ?_
        rintro e W2 ⟨rfl, hb⟩
        have HB2 := Lib.hid (bel_bl HB1.out hb)
        have HW2 := Lib.hid (HW1.out.below hb)
        clear hb c0 c1 HB1 HW1 K1
        have c0 := HW2.out.cell (i := 0) rfl
        have c1 := HW2.out.cell (i := 1) rfl
        cases b1 with
        | false =>
          go_wp2
          go_ret
          exact ⟨rfl, HB2.out⟩
        | true =>
          go_wp2_with fail
          refine (K2.out _ HB2.out).mono ?_
          rintro e W3 ⟨rfl, hb⟩
          have HB3 := Lib.hid (bel_bl HB2.out hb)
          have HW3 := Lib.hid (HW2.out.below hb)
          clear hb c0 c1 HB2 HW2 K2
          have c0 := HW3.out.cell (i := 0) rfl
          have c1 := HW3.out.cell (i := 1) rfl
          cases b2 with
          | false =>
            go_wp2
            go_ret
            exact ⟨rfl, HB3.out⟩
          | true =>
            go_wp2_with fail
            refine (K3.out _ HB3.out).mono ?_
            rintro e W4 ⟨rfl, hb⟩
            have HB4 := Lib.hid (bel_bl HB3.out hb)
            have HW4 := Lib.hid (HW3.out.below hb)
            clear hb c0 c1 HB3 HW3 K3
            have c0 := HW4.out.cell (i := 0) rfl
            have c1 := HW4.out.cell (i := 1) rfl
            cases b3 with
            | false =>
              go_wp2
              go_ret
              exact ⟨rfl, HB4.out⟩
            | true =>
              go_wp2_with fail
              refine (K4.out _ HB4.out).mono ?_
              rintro e W5 ⟨rfl, hb⟩
              have HB5 := Lib.hid (bel_bl HB4.out hb)
              have HW5 := Lib.hid (HW4.out.below hb)
              clear hb c0 c1 HB4 HW4 K4
              have c0 := HW5.out.cell (i := 0) rfl
              have c1 := HW5.out.cell (i := 1) rfl
              cases b4 with
              | false =>
                go_wp2
                go_ret
                exact ⟨rfl, HB5.out⟩
              | true =>
                go_wp2_with fail
                refine (K5.out _ HB5.out).mono ?_
                rintro e W6 ⟨rfl, hb⟩
                have HB6 := Lib.hid (bel_bl HB5.out hb)
                have HW6 := Lib.hid (HW5.out.below hb)
                clear hb c0 c1 HB5 HW5 K5
                have c0 := HW6.out.cell (i := 0) rfl
                have c1 := HW6.out.cell (i := 1) rfl
                cases b5 with
                | false =>
                  go_wp2
                  go_ret
                  exact ⟨rfl, HB6.out⟩
                | true =>
                  go_wp2_with fail
                  refine (K6.out _ HB6.out).mono ?_
                  rintro e W7 ⟨rfl, hb⟩
                  have HB7 := Lib.hid (bel_bl HB6.out hb)
                  have HW7 := Lib.hid (HW6.out.below hb)
                  clear hb c0 c1 HB6 HW6 K6
                  have c0 := HW7.out.cell (i := 0) rfl
                  have c1 := HW7.out.cell (i := 1) rfl
                  cases b6 with
                  | false =>
                    go_wp2
                    go_ret
                    exact ⟨rfl, HB7.out⟩
                  | true =>
                    go_wp2_with fail
                    refine (K7.out _ HB7.out).mono ?_
                    rintro e W8 ⟨rfl, hb⟩
                    have HB8 := Lib.hid (bel_bl HB7.out hb)
                    have HW8 := Lib.hid (HW7.out.below hb)
                    clear hb c0 c1 HB7 HW7 K7
                    have c0 := HW8.out.cell (i := 0) rfl
                    have c1 := HW8.out.cell (i := 1) rfl
                    cases b7 with
                    | false =>
                      go_wp2
                      go_ret
                      exact ⟨rfl, HB8.out⟩
                    | true =>
                      go_wp2
                      go_ret
                      exact ⟨rfl, HB8.out⟩
    · have hbig : decide (24 < n ∨ 40 < m) = true := decide_eq_true (by omega)
      rw [hbig]
      clear k0 k1 k2 k3 k4 k5 k6 k7 hbig hw0 hb0
      go_enter Tryz.func27, Tryz.ntmps27
      go_wp2
      go_ret
      exact ⟨rfl, by first | exact HB0.out | (rw [← gg]; exact HB0.out)⟩
  · have hbig : decide (24 < n ∨ 40 < m) = true := decide_eq_true (by omega)
    rw [hbig]
    clear k0 k1 k2 k3 k4 k5 k6 k7 hbig hw0 hb0
    go_enter Tryz.func27, Tryz.ntmps27
    go_wp2
    go_ret
    exact ⟨rfl, by first | exact HB0.out | (rw [← gg]; exact HB0.out)⟩
end Go.Proofs.YtahbfdhjgnlmdaaGreat

/- The document's examples: loop, shown. -/
namespace Go.Proofs.YtahbfdhjgnlmdaaGreat
open Go.RowKit
set_option linter.unusedSimpArgs false
set_option linter.unusedVariables false

theorem RdS.of_whole {W : World} {g : Nat} {t : TypeId} {cs : List Value} {n size : Nat} (h : Whole W g t cs) (hl : cs.length = n * size) : RdS W W.heap.size size (some ⟨g, 0, none⟩) n n cs :=
  ⟨hl, fun e => (by cases e), Nat.le_refl _, fun a ha _ => (by obtain rfl := Option.some.inj ha; exact h.lt), fun a ha j u hu => (by
    obtain rfl := Option.some.inj ha
    rw [Addr.add_lit]
    simpa using h.cell hu)⟩
theorem RdS.no (W : World) (B size : Nat) : RdS W B size none 0 0 [] := ⟨by simp, fun _ => ⟨rfl, rfl⟩, Nat.le_refl _, fun a h => (by cases h), fun a h => (by cases h)⟩
end Go.Proofs.YtahbfdhjgnlmdaaGreat

/- few. -/
namespace Go.Proofs.YtahbfdhjgnlmdaaGreat
open Go.RowKit
set_option linter.unusedSimpArgs false
set_option linter.unusedVariables false

theorem info_vertex : (Tryz.prog.info? 47).map (fun i => (i.zero, i.size, i.bytes)) = some (some (.agg #[.int .i64 0, .int .i64 0, .slice none 0 0, .string { data := #[] }, .int .i64 0]), 5, 64) := by kernel_rfl
theorem info_edge : (Tryz.prog.info? 43).map (fun i => (i.zero, i.size, i.bytes)) = some (some (.agg #[.int .i64 0, .int .i64 0, .string { data := #[] }, .int .i64 0]), 4, 40) := by kernel_rfl
theorem info_partsD {o : Option TypeInfo} {z : Value} {s b : Nat} (h : o.map (fun i => (i.zero, i.size, i.bytes)) = some (some z, s, b)) : ∃ i, o = some i ∧ i.zero = some z ∧ i.size = s ∧ i.bytes = b := by
  cases o with
  | none => simp at h
  | some i => simp at h; exact ⟨i, rfl, h⟩
theorem Ow.low_ne {w W : World} {B size n g : Nat} {e : TypeId} {v : Value} {xs : List Value} (h : Ow w B e size v n xs W) (hg : g < B) : some g ≠ v.ownBlock := fun e => by
  have := (h.own.lt g e.symm).1
  omega
theorem Ow.set_far {w W : World} {B size n g i : Nat} {e : TypeId} {v : Value} {xs : List Value} (h : Ow w B e size v n xs W) (hne : some g ≠ v.ownBlock) (hg : w.heap.size ≤ g) (u : Value) : Ow w B e size v n xs (W.setCell ⟨g, i, none⟩ u) :=
  ⟨h.own.kept (row := some g) ⟨rfl, rfl, rfl, by simp [World.setCell], fun k _ hk => Below.heap_setCell _ _ _ _ (by
    rintro rfl
    exact hk rfl)⟩ (by first | exact hne | exact hne.symm | exact .inr hne | exact .inr hne.symm), h.below.setCell hg u, h.lo, by simpa [World.setCell] using h.hi⟩
theorem Whole.set_far' {W : World} {g h i : Nat} {t : TypeId} {cs : List Value} (hw : Whole W g t cs) (hne : g ≠ h) (u : Value) : Whole (W.setCell ⟨h, i, none⟩ u) g t cs :=
  hw.at_ (Below.heap_setCell _ _ _ _ hne)
def fewV (v : VC) : VC := if 30 < v.2.1.2.1 then (v.1, (v.2.1.1, 30, v.2.1.2.2.1, v.2.1.2.2.2.take 30), v.2.2) else v
theorem fewE_next (Es : List EC) (j : Nat) (v : EC) (h : Es[j]? = some v) : rowsV eC (Es.take j) ++ rowsV eC [v] = rowsV eC (Es.take (j + 1)) := by
  rw [← rowsV_app, List.take_add_one, h]
  simp
/-- Both rows are new, and not too long. -/
def FwNew (w : World) (A : Option Addr) (n c : Nat) (B : Option Addr) (m k : Nat) : Prop :=
  c ≤ maxLen ∧ k ≤ maxLen ∧ (∀ a, A = some a → 0 < n → w.heap.size ≤ a.block) ∧ (∀ a, B = some a → 0 < m → w.heap.size ≤ a.block)
theorem RdS.far_ {W : World} {B size n c g i : Nat} {A : Option Addr} {xs : List Value} (h : RdS W B size A n c xs) (hne : ∀ a, A = some a → 0 < n → a.block ≠ g) (u : Value) : RdS (W.setCell ⟨g, i, none⟩ u) B size A n c xs :=
  ⟨h.len, h.none_, h.le, h.low, fun a ha j x hx => (World.cell?_of_block (Below.heap_setCell _ _ _ _ (by
    rw [add_block]
    first | exact hne a ha (h.pos hx) | exact (hne a ha (h.pos hx)).symm))).trans (h.cell a ha j x hx)⟩
/-- Between two rounds: the edges' row grows. -/
structure FewB (w : World) (Vs : List VC) (Es : List EC) (A B : Option Addr) (n c m k b0 b1 b2 B2 N : Nat) (A1 : Option Addr) (c1 j : Nat) (v u : Value) (wr : World) : Prop where
  ow : Ow w B2 43 4 v j (rowsV eC (Es.take j)) wr
  x0 : Whole wr b0 25 [.slice A n c, .slice B m k]
  x1 : Whole wr b1 25 [.slice none 0 0, .slice none 0 0]
  x2 : Whole wr b2 25 [.slice A1 N c1, u]
  rv : RdS wr B2 5 A1 N c1 (rowsV vC ((Vs.take 30).map fewV))
section
variable {w wr wr' : World} {Vs : List VC} {Es : List EC} {A B A1 : Option Addr} {n c m k b0 b1 b2 B2 N c1 j : Nat} {v u : Value}
theorem FewB.below (h : FewB w Vs Es A B n c m k b0 b1 b2 B2 N A1 c1 j v u wr) (hb : Below wr.heap.size wr wr') : FewB w Vs Es A B n c m k b0 b1 b2 B2 N A1 c1 j v u wr' :=
  ⟨h.ow.up hb, h.x0.below hb, h.x1.below hb, h.x2.below hb, h.rv.up (hb.mono h.ow.hi) (Nat.le_refl _)⟩
/-- The row has grown. -/
theorem FewB.grow (h : FewB w Vs Es A B n c m k b0 b1 b2 B2 N A1 c1 j v u wr) {e : EC} (he : Es[j]? = some e) {v' : Value} (ho : Ow w B2 43 4 v' (j + 1) (rowsV eC (Es.take j) ++ eC e) wr') (hb : Below B2 wr wr') (h0 : b0 < B2) (h1 : b1 < B2) (h2 : b2 < B2) :
    FewB w Vs Es A B n c m k b0 b1 b2 B2 N A1 c1 (j + 1) v' u wr' :=
  ⟨by rw [← fewE_next Es j e he]; simpa [rowsV] using ho, h.x0.at_ (hb.block _ h0), h.x1.at_ (hb.block _ h1), h.x2.at_ (hb.block _ h2), h.rv.up hb (Nat.le_refl _)⟩
theorem FewB.store (h : FewB w Vs Es A B n c m k b0 b1 b2 B2 N A1 c1 j v u wr) (h02 : b0 ≠ b2) (h12 : b1 ≠ b2) (h2 : b2 < B2) (hl : w.heap.size ≤ b2) (hne : ∀ a, A1 = some a → 0 < N → a.block ≠ b2) :
    FewB w Vs Es A B n c m k b0 b1 b2 B2 N A1 c1 j v v (wr.setCell ⟨b2, 1, none⟩ v) :=
  ⟨h.ow.set_far (h.ow.low_ne h2) hl v, h.x0.set_far' h02 v, h.x1.set_far' h12 v, h.x2.set_ 1 v, h.rv.far_ hne v⟩
end
theorem RgOk.few {w : World} {v : VC} (h : RgOk w v.2.1) : RgOk w (fewV v).2.1 := by
  unfold fewV
  split
  · rename_i h30
    refine ⟨h.1, ?_⟩
    have := h.2.take_ 30 (by omega)
    rw [dartsV_rows, ← rowsV_take dC dC_len] at this
    show RdS w w.heap.size 3 v.2.1.1 30 v.2.1.2.2.1 (dartsV (v.2.1.2.2.2.take 30))
    rw [dartsV_rows]
    exact this
  · exact h
end Go.Proofs.YtahbfdhjgnlmdaaGreat

/- slices.Clone of vertices, edges, darts; cloneVertex. -/
namespace Go.Proofs.YtahbfdhjgnlmdaaGreat
open Go.RowKit
set_option linter.unusedSimpArgs false
set_option linter.unusedVariables false

theorem info_dartD : (Tryz.prog.info? 49).map (fun i => (i.zero, i.size, i.bytes)) = some (some (.agg #[.int .i64 0, .int .i64 0, .int .i64 0]), 3, 24) := by kernel_rfl
end Go.Proofs.YtahbfdhjgnlmdaaGreat

/- Names. -/
namespace Go.Proofs.YtahbfdhjgnlmdaaGreat
open Go.RowKit
set_option linter.unusedSimpArgs false
set_option linter.unusedVariables false

theorem info_idD : (Tryz.prog.info? 41).map (fun i => (i.zero, i.size, i.bytes)) = some (some (.agg #[.int .i64 0, .int .i64 0]), 2, 16) := by kernel_rfl
def idC (x : Int × Int) : List Value := [.int .i64 x.1, .int .i64 x.2]
theorem idC_len (x : Int × Int) : (idC x).length = 2 := rfl
theorem names_next {α : Type} (g : α → Int × Int) (P : List (Int × Int)) (L : List α) (j : Nat) (x : α) (h : L[j]? = some x) : rowsV idC (P ++ (L.take j).map g) ++ idC (g x) = rowsV idC (P ++ (L.take (j + 1)).map g) := by
  have : (L.take (j + 1)).map g = (L.take j).map g ++ [g x] := by rw [List.take_add_one, h]; simp
  have e : rowsV idC [g x] = idC (g x) := by simp [rowsV]
  rw [this, ← List.append_assoc, rowsV_app idC (P ++ (L.take j).map g) [g x], e]
end Go.Proofs.YtahbfdhjgnlmdaaGreat

/- At: the vertex in whose ring a dart stands. -/
namespace Go.Proofs.YtahbfdhjgnlmdaaGreat
open Go.RowKit
set_option linter.unusedSimpArgs false
set_option linter.unusedVariables false

theorem ret_whole2 {P : Program} {fn : Func} {R : Ending → World → Prop} {a : Act} {w : World} {p u : Tmp} {t : TypeId} (h : fn.results = #[.cell p t, .tmp u]) (g : Nat) {t' : TypeId} {cs : List Value} {d : TypeDesc} {v : Value}
    (hp : a.tmps.getD p undef = .pointer (some ⟨g, 0, none⟩)) (hv : a.tmps.getD u undef = v) (hW : Whole w g t' cs) (hu : P.underlying t = some d) (hd : d.isRow = true) (hi : (P.info? t).map (·.size) = some cs.length)
    (hdf : a.defers = []) (hR : R (.returned (.tuple #[.agg cs.toArray, v])) w) : bodyPost P fn R .ret a w := by
  refine bodyPost_ret (v := .tuple #[.agg cs.toArray, v]) ?_ hdf hR
  have hl := run_loadVar_mid (P := P) w g 0 t cs d (fun j v hv => by
    have := hW.cell hv
    simpa using this) hu hd hi
  rw [results_cell_tmp h, hp, hv]
  simp [asAddr, Result.andThen, hl]
def atV (Vs : List VC) (x : D) : (Int × Int) × Bool := match Vs.find? (fun v => decide (x ∈ v.2.1.2.2.2)) with | some v => (v.1, true) | none => ((0, 0), false)
theorem atV_yes (v : VC) (r : List VC) (x : D) (h : x ∈ v.2.1.2.2.2) : atV (v :: r) x = (v.1, true) := by simp [atV, h]
theorem atV_no (v : VC) (r : List VC) (x : D) (h : ¬ x ∈ v.2.1.2.2.2) : atV (v :: r) x = atV r x := by simp [atV, h]
end Go.Proofs.YtahbfdhjgnlmdaaGreat

/- find, Vertex, Edge. -/
namespace Go.Proofs.YtahbfdhjgnlmdaaGreat
open Go.RowKit
set_option linter.unusedSimpArgs false
set_option linter.unusedVariables false


def fnd {α : Type} (nm : α → Int × Int) (z : α) (L : List α) (x : Int × Int) : α × Bool := match L.find? (fun v => decide (nm v = x)) with | some v => (v, true) | none => (z, false)
theorem fnd_yes {α : Type} (nm : α → Int × Int) (z v : α) (r : List α) (x : Int × Int) (h : nm v = x) : fnd nm z (v :: r) x = (v, true) := by simp [fnd, h]
theorem fnd_no {α : Type} (nm : α → Int × Int) (z v : α) (r : List α) (x : Int × Int) (h : ¬ nm v = x) : fnd nm z (v :: r) x = fnd nm z r x := by simp [fnd, h]
def zV : VC := ((0, 0), (none, 0, 0, []), ⟨#[]⟩, 0)
def zE : EC := ((0, 0), ⟨#[]⟩, 0)
def fndV (L : List VC) (x : Int × Int) := fnd (fun v : VC => v.1) zV L x
def fndE (L : List EC) (x : Int × Int) := fnd (fun v : EC => v.1) zE L x
theorem fnd_mem {α : Type} (nm : α → Int × Int) (z : α) (L : List α) (x : Int × Int) : (fnd nm z L x).1 ∈ L ∨ fnd nm z L x = (z, false) := by
  unfold fnd
  split
  · rename_i v h; exact .inl (List.mem_of_find?_eq_some h)
  · exact .inr rfl
end Go.Proofs.YtahbfdhjgnlmdaaGreat

/- Vertex, Same of the program. -/
namespace Go.Proofs.YtahbfdhjgnlmdaaGreat
open Go.RowKit
set_option linter.unusedSimpArgs false
set_option linter.unusedVariables false


theorem fndV_ring {w : World} {A B : Option Addr} {n c m k : Nat} {Vs : List VC} {Es : List EC} (h : DgIn w A n c Vs B m k Es) (hr : ∀ x ∈ Vs, x.2.1.2.1 ≤ 1000000) (x : Int × Int) :
    RgOk w (fndV Vs x).1.2.1 ∧ (fndV Vs x).1.2.1.2.1 ≤ 1000000 := by
  rcases fnd_mem (fun v : VC => v.1) zV Vs x with hm | he
  · exact ⟨h.r _ hm, hr _ hm⟩
  · have e : fndV Vs x = (zV, false) := he
    rw [e]
    exact ⟨⟨Nat.zero_le _, RdS.no _ _ _⟩, by decide⟩
/-- What a vertex is, wherever its ring lies. -/
def vS (v : VC) : (Int × Int) × List D × ByteArray × Int := (v.1, v.2.1.2.2.2, v.2.2.1, v.2.2.2)
end Go.Proofs.YtahbfdhjgnlmdaaGreat

/- The document's own Index, Turn, Next, Prev of rings. -/
namespace Go.Proofs.YtahbfdhjgnlmdaaGreat
open Go.RowKit
set_option linter.unusedSimpArgs false

set_option maxHeartbeats 400000 in
theorem rfindex_any (A : Option Addr) (n c : Nat) (L : List D) (d : D) (w : World) (h : RdS w w.heap.size 3 A n c (dartsV L)) (hn : n ≤ 9223372036854775807) :
    Calls Tryz.prog 82 #[.slice A n c, .agg #[.int .i64 d.1, .int .i64 d.2.1, .int .i64 d.2.2]] w fun e w' => e = .returned (.int .i64 (idxD L d)) ∧ Below w.heap.size w w' := by
  have hl := h.dlen
  have HL := Lib.hid hl
  have H := Lib.hid h
  have HS : RowKit.Hid (IdxAt w L d 0 (w.alloc (.cells #[.int .i64 d.1, .int .i64 d.2.1, .int .i64 d.2.2] 49))) := ⟨fun j hj => absurd hj (by omega), Whole.new_ w _ [.int .i64 d.1, .int .i64 d.2.1, .int .i64 d.2.2], below1 _ _⟩
  clear h hl
  go_enter Tryz.func82, Tryz.ntmps82
  go_wp2
  go_loopw [5] (fun i wr => ∃ k : Nat, k ≤ n ∧ i = .int .i64 k ∧ IdxAt w L d k wr) (fun i _ => n - (intOf i).toNat)
  case atStart => exact ⟨0, Nat.zero_le _, rfl, HS.out⟩
  case round =>
    obtain ⟨k, hk, rfl, h1, h2, h3⟩ := hrel
    have H1 := Lib.hid h1
    have H2 := Lib.hid h2
    have H3 := Lib.hid h3
    clear h1 HS
    by_cases hlt : k < n
    · obtain ⟨b, off, rfl, hb, hc⟩ := H.out.darts (by omega)
      obtain ⟨c1, c2, c3⟩ := hc k (by rw [HL.out]; exact hlt)
      have d1 := (h3.cell (p := ⟨b, off + k * 3, none⟩) hb).trans c1
      have d2 := (h3.cell (p := ⟨b, off + k * 3 + 1, none⟩) hb).trans c2
      have d3 := (h3.cell (p := ⟨b, off + k * 3 + 2, none⟩) hb).trans c3
      have b1 := h2.cell (i := 0) rfl
      have b2 := h2.cell (i := 1) rfl
      have b3 := h2.cell (i := 2) rfl
      obtain ⟨x, gx⟩ : ∃ v, L.getD k (0, 0, 0) = v := ⟨_, rfl⟩
      rw [gx] at d1 d2 d3
      have GX := Lib.hid gx
      have hq := eq_dart_run x d
      clear h2 h3 hc c1 c2 c3 gx
      by_cases hd : x = d
      · have hd' : decide (x = d) = true := by simpa using hd
        rw [hd'] at hq
        have HD := Lib.hid hd
        clear hd hd'
        go_wp2
        go_quiet (fail)
        go_wp2
        go_ret
        exact ⟨ret_int (by rw [idxD_at (by rw [HL.out]; exact hlt) (GX.out.trans HD.out) H1.out]), ⟨H3.out.os, H3.out.tape, H3.out.output, H3.out.size, H3.out.block⟩⟩
      · have hd' : decide (x = d) = false := by simpa using hd
        rw [hd'] at hq
        have HD := Lib.hid hd
        clear hd hd'
        go_wp2
        go_quiet (fail)
        go_wp2
        go_roundw
        case rel =>
          refine ⟨k + 1, by omega, by go_num, fun j hj => ?_, H2.out, ⟨H3.out.os, H3.out.tape, H3.out.output, H3.out.size, H3.out.block⟩⟩
          rcases Nat.lt_or_ge j k with h | h
          · exact H1.out j h
          · obtain rfl : j = k := by omega
            rw [GX.out]
            exact HD.out
        case measure => simp [intOf]; omega
    · clear h2 h3
      go_wp2
      go_ret
      refine ⟨ret_int ?_, H3.out⟩
      rw [idxD_not]
      intro j hj
      exact H1.out j (by have := HL.out; omega)


theorem turnD_get (L : List D) (i : Nat) (h : i < L.length) : (turnD L).getD i (0, 0, 0) = L.getD ((leastI L L.length + i) % L.length) (0, 0, 0) := by
  have hm : leastI L L.length < L.length := leastI_lt L _ (by omega)
  unfold turnD
  generalize leastI L L.length = m at *
  simp only [List.getD_eq_getElem?_getD]
  congr 1
  rcases Nat.lt_or_ge (m + i) L.length with h1 | h1
  · rw [List.getElem?_append_left (by simp; omega), List.getElem?_drop, Nat.mod_eq_of_lt h1]
  · rw [List.getElem?_append_right (by simp; omega), List.getElem?_take, List.length_drop, if_pos (by omega)]
    congr 1
    rw [Nat.mod_eq_sub_mod h1, Nat.mod_eq_of_lt (by omega)]
    omega
theorem take_snocD (L : List D) (k : Nat) (h : k < L.length) : L.take (k + 1) = L.take k ++ [L.getD k (0, 0, 0)] := by
  rw [List.take_succ_eq_append_getElem h]
  simp [h]

set_option maxRecDepth 100000 in
set_option maxHeartbeats 1000000 in
theorem rfturn_any (A : Option Addr) (n c : Nat) (L : List D) (w : World) (h : RdS w w.heap.size 3 A n c (dartsV L)) (hn : n ≤ 5864062014634) :
    Calls Tryz.prog 61 #[.slice A n c] w (GivesR w (turnD L)) := by
  obtain ⟨i0, hi, hz0, hz1, hz2⟩ := info_parts info_dart
  have HR := Lib.hid h
  have hl := h.dlen
  subst hl
  clear h
  go_enter Tryz.func61, Tryz.ntmps61
  go_wp2
  go_loopw [3, 4] (fun lv i wr => ∃ k : Nat, k ≤ L.length ∧ i = .int .i64 k ∧ lv = .int .i64 (leastI L k : Int) ∧ Below w.heap.size w wr) (fun _ i _ => L.length - (intOf i).toNat)
  case atStart => exact ⟨0, Nat.zero_le _, rfl, rfl, Below.refl _ _⟩
  case round =>
    obtain ⟨k2, hk2, rfl, rfl, hbw⟩ := hrel
    have HBw := Lib.hid hbw
    by_cases hlt2 : k2 < L.length
    · obtain ⟨b, off, rfl, hb, hc⟩ := (HR.out.up hbw hbw.size).darts (by omega)
      obtain ⟨d1, d2, d3⟩ := hc k2 hlt2
      have hlm := leastI_le L k2
      have hlm2 : leastI L k2 < L.length := by omega
      obtain ⟨e1, e2, e3⟩ := hc (leastI L k2) hlm2
      have hs : leastI L (k2 + 1) = if ordT (L.getD k2 (0, 0, 0)) (L.getD (leastI L k2) (0, 0, 0)) < 0 then k2 else leastI L k2 := rfl
      obtain ⟨m, gm⟩ : ∃ v, leastI L k2 = v := ⟨_, rfl⟩
      rw [gm] at e1 e2 e3 hlm hlm2 hs ⊢
      obtain ⟨x, gx⟩ : ∃ v, L.getD k2 (0, 0, 0) = v := ⟨_, rfl⟩
      obtain ⟨y, gy⟩ : ∃ v, L.getD m (0, 0, 0) = v := ⟨_, rfl⟩
      rw [gx] at d1 d2 d3 hs
      rw [gy] at e1 e2 e3 hs
      have HOr := rorderdart_any x.1 x.2.1 x.2.2 y.1 y.2.1 y.2.2
      have ho : ordD x.1 x.2.1 x.2.2 y.1 y.2.1 y.2.2 = ordT x y := rfl
      obtain ⟨ov, gov⟩ : ∃ v, ordT x y = v := ⟨_, rfl⟩
      rw [ho, gov] at HOr
      rw [gov] at hs
      have HOr' := Lib.hid HOr
      have HS := Lib.hid hs
      clear hc gm gx gy ho gov HOr hs
      go_upto_region 5 with fail
      have g0 : ∀ w', Kept Nil_ wr.drew w' → w'.cell? ⟨b, off + k2 * 3, none⟩ = some (.int .i64 x.1) := fun w' h => h.nil_cell d1
      have g1 : ∀ w', Kept Nil_ wr.drew w' → w'.cell? ⟨b, off + k2 * 3 + 1, none⟩ = some (.int .i64 x.2.1) := fun w' h => h.nil_cell d2
      have g2 : ∀ w', Kept Nil_ wr.drew w' → w'.cell? ⟨b, off + k2 * 3 + 2, none⟩ = some (.int .i64 x.2.2) := fun w' h => h.nil_cell d3
      have g3 : ∀ w', Kept Nil_ wr.drew w' → w'.cell? ⟨b, off + m * 3, none⟩ = some (.int .i64 y.1) := fun w' h => h.nil_cell e1
      have g4 : ∀ w', Kept Nil_ wr.drew w' → w'.cell? ⟨b, off + m * 3 + 1, none⟩ = some (.int .i64 y.2.1) := fun w' h => h.nil_cell e2
      have g5 : ∀ w', Kept Nil_ wr.drew w' → w'.cell? ⟨b, off + m * 3 + 2, none⟩ = some (.int .i64 y.2.2) := fun w' h => h.nil_cell e3
      have hE : RowKit.Hid (Below w.heap.size w wr.drew) := HBw.out.drew
      clear hbw
      by_cases ho : ov < 0
      · rw [if_pos ho] at HS
        refine wp_region_reg (Nil_) (by kernel_rfl) ?_
        apply wpR_next 0 (some 13)
        · simp only [List.getElem?_toArray, List.getElem?_cons_succ, List.getElem?_cons_zero]; exact rfl
        · rfl
        · kernel_rfl
        · kernel_rfl
        · kernel_rfl
        · exact fun _ _ _ _ h => h
        apply Exists.intro
        apply And.intro
        · apply yr_run; rfl; intro w' hw'; go_simp; (try with_reducible rfl)
        simp only [Act.put, List.setIfInBounds_toArray, List.set_cons_zero, List.set_cons_succ]
        apply wpR_next 1 (some 14)
        · simp only [List.getElem?_toArray, List.getElem?_cons_succ, List.getElem?_cons_zero]; exact rfl
        · rfl
        · kernel_rfl
        · kernel_rfl
        · kernel_rfl
        · exact fun _ _ _ _ h => h
        apply Exists.intro
        apply And.intro
        · apply yr_run; rfl; intro w' hw'; go_simp; (try with_reducible rfl)
        simp only [Act.put, List.setIfInBounds_toArray, List.set_cons_zero, List.set_cons_succ]
        apply wpR_next 2 (some 15)
        · simp only [List.getElem?_toArray, List.getElem?_cons_succ, List.getElem?_cons_zero]; exact rfl
        · rfl
        · kernel_rfl
        · kernel_rfl
        · kernel_rfl
        · exact fun _ _ _ _ h => h
        apply Exists.intro
        apply And.intro
        · apply yr_run; rfl; intro w' hw'; go_simp; (try with_reducible rfl)
        simp only [Act.put, List.setIfInBounds_toArray, List.set_cons_zero, List.set_cons_succ]
        apply wpR_next 3 (some 16)
        · simp only [List.getElem?_toArray, List.getElem?_cons_succ, List.getElem?_cons_zero]; exact rfl
        · rfl
        · kernel_rfl
        · kernel_rfl
        · kernel_rfl
        · exact fun _ _ _ _ h => h
        apply Exists.intro
        apply And.intro
        · apply yr_run; rfl; intro w' hw'; go_simp; (try with_reducible rfl)
        simp only [Act.put, List.setIfInBounds_toArray, List.set_cons_zero, List.set_cons_succ]
        apply wpR_next 4 (some 17)
        · simp only [List.getElem?_toArray, List.getElem?_cons_succ, List.getElem?_cons_zero]; exact rfl
        · rfl
        · kernel_rfl
        · kernel_rfl
        · kernel_rfl
        · exact fun _ _ _ _ h => h
        apply Exists.intro
        apply And.intro
        · apply yr_run; rfl; intro w' hw'; go_simp; (try with_reducible rfl)
        simp only [Act.put, List.setIfInBounds_toArray, List.set_cons_zero, List.set_cons_succ]
        apply wpR_next 5 (some 18)
        · simp only [List.getElem?_toArray, List.getElem?_cons_succ, List.getElem?_cons_zero]; exact rfl
        · rfl
        · kernel_rfl
        · kernel_rfl
        · kernel_rfl
        · exact fun _ _ _ _ h => h
        apply Exists.intro
        apply And.intro
        · apply yr_run; rfl; intro w' hw'; go_simp; (try with_reducible rfl)
        simp only [Act.put, List.setIfInBounds_toArray, List.set_cons_zero, List.set_cons_succ]
        apply wpR_next 6 (some 19)
        · simp only [List.getElem?_toArray, List.getElem?_cons_succ, List.getElem?_cons_zero]; exact rfl
        · rfl
        · kernel_rfl
        · kernel_rfl
        · kernel_rfl
        · exact fun _ _ _ _ h => h
        apply Exists.intro
        apply And.intro
        · apply yr_run; rfl; intro w' hw'; go_simp; (try with_reducible rfl)
        simp only [Act.put, List.setIfInBounds_toArray, List.set_cons_zero, List.set_cons_succ]
        apply wpR_next 7 (some 20)
        · simp only [List.getElem?_toArray, List.getElem?_cons_succ, List.getElem?_cons_zero]; exact rfl
        · rfl
        · kernel_rfl
        · kernel_rfl
        · kernel_rfl
        · exact fun _ _ _ _ h => h
        apply Exists.intro
        apply And.intro
        · apply yr_run; rfl; intro w' hw'; go_simp; (try with_reducible rfl)
        simp only [Act.put, List.setIfInBounds_toArray, List.set_cons_zero, List.set_cons_succ]
        apply wpR_next 8 (some 21)
        · simp only [List.getElem?_toArray, List.getElem?_cons_succ, List.getElem?_cons_zero]; exact rfl
        · rfl
        · kernel_rfl
        · kernel_rfl
        · kernel_rfl
        · exact fun _ _ _ _ h => h
        apply Exists.intro
        apply And.intro
        · apply yr_call; rfl; rotate_left; intro w' hw'; exact HOr'.out w'; intro w'; go_simp
        simp only [Act.put, List.setIfInBounds_toArray, List.set_cons_zero, List.set_cons_succ]
        apply wpR_next 9 (some 22)
        · simp only [List.getElem?_toArray, List.getElem?_cons_succ, List.getElem?_cons_zero]; exact rfl
        · rfl
        · kernel_rfl
        · kernel_rfl
        · kernel_rfl
        · exact fun _ _ _ _ h => h
        apply Exists.intro
        apply And.intro
        · apply yr_run; rfl; intro w' hw'; go_simp; (try with_reducible rfl)
        simp only [Act.put, List.setIfInBounds_toArray, List.set_cons_zero, List.set_cons_succ]
        refine wpR_done (by kernel_rfl) ?_ _
        intro w' hw'
        have hE2 : RowKit.Hid (Below w.heap.size w w') := hE.out.trans (hw'.mono hE.out.size)
        clear g0 g1 g2 g3 g4 g5 hw' d1 d2 d3 e1 e2 e3
        go_wp2
        go_roundw
        case rel => exact ⟨k2 + 1, by omega, by go_num, by rw [HS.out], hE2.out⟩
        case measure => simp [intOf]; omega
      · rw [if_neg ho] at HS
        refine wp_region_reg (Nil_) (by kernel_rfl) ?_
        apply wpR_next 0 (some 13)
        · simp only [List.getElem?_toArray, List.getElem?_cons_succ, List.getElem?_cons_zero]; exact rfl
        · rfl
        · kernel_rfl
        · kernel_rfl
        · kernel_rfl
        · exact fun _ _ _ _ h => h
        apply Exists.intro
        apply And.intro
        · apply yr_run; rfl; intro w' hw'; go_simp; (try with_reducible rfl)
        simp only [Act.put, List.setIfInBounds_toArray, List.set_cons_zero, List.set_cons_succ]
        apply wpR_next 1 (some 14)
        · simp only [List.getElem?_toArray, List.getElem?_cons_succ, List.getElem?_cons_zero]; exact rfl
        · rfl
        · kernel_rfl
        · kernel_rfl
        · kernel_rfl
        · exact fun _ _ _ _ h => h
        apply Exists.intro
        apply And.intro
        · apply yr_run; rfl; intro w' hw'; go_simp; (try with_reducible rfl)
        simp only [Act.put, List.setIfInBounds_toArray, List.set_cons_zero, List.set_cons_succ]
        apply wpR_next 2 (some 15)
        · simp only [List.getElem?_toArray, List.getElem?_cons_succ, List.getElem?_cons_zero]; exact rfl
        · rfl
        · kernel_rfl
        · kernel_rfl
        · kernel_rfl
        · exact fun _ _ _ _ h => h
        apply Exists.intro
        apply And.intro
        · apply yr_run; rfl; intro w' hw'; go_simp; (try with_reducible rfl)
        simp only [Act.put, List.setIfInBounds_toArray, List.set_cons_zero, List.set_cons_succ]
        apply wpR_next 3 (some 16)
        · simp only [List.getElem?_toArray, List.getElem?_cons_succ, List.getElem?_cons_zero]; exact rfl
        · rfl
        · kernel_rfl
        · kernel_rfl
        · kernel_rfl
        · exact fun _ _ _ _ h => h
        apply Exists.intro
        apply And.intro
        · apply yr_run; rfl; intro w' hw'; go_simp; (try with_reducible rfl)
        simp only [Act.put, List.setIfInBounds_toArray, List.set_cons_zero, List.set_cons_succ]
        apply wpR_next 4 (some 17)
        · simp only [List.getElem?_toArray, List.getElem?_cons_succ, List.getElem?_cons_zero]; exact rfl
        · rfl
        · kernel_rfl
        · kernel_rfl
        · kernel_rfl
        · exact fun _ _ _ _ h => h
        apply Exists.intro
        apply And.intro
        · apply yr_run; rfl; intro w' hw'; go_simp; (try with_reducible rfl)
        simp only [Act.put, List.setIfInBounds_toArray, List.set_cons_zero, List.set_cons_succ]
        apply wpR_next 5 (some 18)
        · simp only [List.getElem?_toArray, List.getElem?_cons_succ, List.getElem?_cons_zero]; exact rfl
        · rfl
        · kernel_rfl
        · kernel_rfl
        · kernel_rfl
        · exact fun _ _ _ _ h => h
        apply Exists.intro
        apply And.intro
        · apply yr_run; rfl; intro w' hw'; go_simp; (try with_reducible rfl)
        simp only [Act.put, List.setIfInBounds_toArray, List.set_cons_zero, List.set_cons_succ]
        apply wpR_next 6 (some 19)
        · simp only [List.getElem?_toArray, List.getElem?_cons_succ, List.getElem?_cons_zero]; exact rfl
        · rfl
        · kernel_rfl
        · kernel_rfl
        · kernel_rfl
        · exact fun _ _ _ _ h => h
        apply Exists.intro
        apply And.intro
        · apply yr_run; rfl; intro w' hw'; go_simp; (try with_reducible rfl)
        simp only [Act.put, List.setIfInBounds_toArray, List.set_cons_zero, List.set_cons_succ]
        apply wpR_next 7 (some 20)
        · simp only [List.getElem?_toArray, List.getElem?_cons_succ, List.getElem?_cons_zero]; exact rfl
        · rfl
        · kernel_rfl
        · kernel_rfl
        · kernel_rfl
        · exact fun _ _ _ _ h => h
        apply Exists.intro
        apply And.intro
        · apply yr_run; rfl; intro w' hw'; go_simp; (try with_reducible rfl)
        simp only [Act.put, List.setIfInBounds_toArray, List.set_cons_zero, List.set_cons_succ]
        apply wpR_next 8 (some 21)
        · simp only [List.getElem?_toArray, List.getElem?_cons_succ, List.getElem?_cons_zero]; exact rfl
        · rfl
        · kernel_rfl
        · kernel_rfl
        · kernel_rfl
        · exact fun _ _ _ _ h => h
        apply Exists.intro
        apply And.intro
        · apply yr_call; rfl; rotate_left; intro w' hw'; exact HOr'.out w'; intro w'; go_simp
        simp only [Act.put, List.setIfInBounds_toArray, List.set_cons_zero, List.set_cons_succ]
        apply wpR_next 9 (some 22)
        · simp only [List.getElem?_toArray, List.getElem?_cons_succ, List.getElem?_cons_zero]; exact rfl
        · rfl
        · kernel_rfl
        · kernel_rfl
        · kernel_rfl
        · exact fun _ _ _ _ h => h
        apply Exists.intro
        apply And.intro
        · apply yr_run; rfl; intro w' hw'; go_simp; (try with_reducible rfl)
        simp only [Act.put, List.setIfInBounds_toArray, List.set_cons_zero, List.set_cons_succ]
        refine wpR_done (by kernel_rfl) ?_ _
        intro w' hw'
        have hE2 : RowKit.Hid (Below w.heap.size w w') := hE.out.trans (hw'.mono hE.out.size)
        clear g0 g1 g2 g3 g4 g5 hw' d1 d2 d3 e1 e2 e3
        go_wp2
        go_roundw
        case rel => exact ⟨k2 + 1, by omega, by go_num, by rw [HS.out], hE2.out⟩
        case measure => simp [intOf]; omega
    · have hkl : k2 = L.length := by omega
      subst hkl
      have hlm := leastI_le L L.length
      have ht := turnD_get L
      have hlen := turnD_length L
      obtain ⟨R, gR⟩ : ∃ v, turnD L = v := ⟨_, rfl⟩
      obtain ⟨m, gm⟩ : ∃ v, leastI L L.length = v := ⟨_, rfl⟩
      rw [gm, gR] at ht
      rw [gR] at hlen
      rw [gm] at hlm ⊢
      have GR := Lib.hid gR
      have HT := Lib.hid ht
      have HLen := Lib.hid hlen
      clear ht gm gR hlen
      obtain ⟨W1, rfl⟩ : ∃ x : World, x = wr := ⟨_, rfl⟩
      have HO : RowKit.Hid (Ow w w.heap.size 49 3 (.slice (some ⟨W1.heap.size, 0, none⟩) 0 0) 0 [] (W1.alloc (.cells #[] 49))) := Ow.new_ (cs := #[]) HBw.out (Nat.le_refl _) HBw.out.size (Nat.zero_le _) rfl
      clear hbw
      go_wp2
      go_loopw [5, 6] (fun v i wr => ∃ k : Nat, k ≤ L.length ∧ i = .int .i64 k ∧ Ow w w.heap.size 49 3 v (R.take k).length (dartsV (R.take k)) wr) (fun _ i _ => L.length - (intOf i).toNat)
      case atStart => exact ⟨0, Nat.zero_le _, rfl, HO.out⟩
      case round =>
        clear HO
        obtain ⟨k, hk, rfl, how⟩ := hrel
        have HO := Lib.hid how
        by_cases hlt : k < L.length
        · obtain ⟨b, off, rfl, hb, hc⟩ := (HR.out.up how.below how.below.size).darts (by omega)
          have hj : (m + k) % L.length < L.length := Nat.mod_lt _ (by omega)
          have hmod : ((m : Int) + (k : Int)) % (L.length : Int) = (((m + k) % L.length : Nat) : Int) := by rw [Int.natCast_emod, Int.natCast_add]
          have hx := HT.out k hlt
          obtain ⟨j, gj⟩ : ∃ v, (m + k) % L.length = v := ⟨_, rfl⟩
          rw [gj] at hj hmod hx
          obtain ⟨c1, c2, c3⟩ := hc j hj
          obtain ⟨x, gx⟩ : ∃ v, L.getD j (0, 0, 0) = v := ⟨_, rfl⟩
          rw [gx] at c1 c2 c3 hx
          have HX := Lib.hid hx
          have HTk := Lib.hid (take_snocD R k (by rw [HLen.out]; exact hlt))
          have hlk : (R.take k).length ≤ 5864062014634 := by
            have := List.length_take_le k R
            omega
          clear hc how gj gx hx
          go_wp2_with (first
            | (at_builtin
               refine wpList_push rfl (.tmp 31) (.tmp 41) _ rfl _ 49 i0 _ 3 24 Tryz.underlying45 hi hz0 hz1 hz2 rfl (by decide) _ _ _ rfl (by exact HO.out.up (below1 _ _)) _ (some ⟨wr.heap.size, 0, none⟩) 1 1 (dartsV [x]) rfl (by exact RdS.whole3 (L := [x]) (Whole.new_ _ _ _)) (dartsV_one [x]) (by unfold maxLen; omega) (by omega) ?_
               intro v1 w1 how1 hb1
               have HO1 := Lib.hid how1
               clear how1 hb1))
          go_roundw
          case rel =>
            refine ⟨k + 1, by omega, by go_num, ?_⟩
            rw [HTk.out, HX.out, List.length_append, dartsV_app]
            exact HO1.out
          case measure => simp [intOf]; omega
        · have htk : R.take k = R := List.take_of_length_le (by rw [HLen.out]; omega)
          rw [htk] at HO
          clear how htk
          obtain ⟨A1, c1, hv, hr1⟩ := HO.out.rds
          subst hv
          have HR1 := Lib.hid hr1
          clear hr1
          go_wp2
          go_ret
          rw [GR.out]
          exact ⟨A1, c1, rfl, HR1.out, HO.out.below⟩
end Go.Proofs.YtahbfdhjgnlmdaaGreat

/- The document's MayAttr, Vertex, Edge, At, times. -/
namespace Go.Proofs.YtahbfdhjgnlmdaaGreat
open Go.RowKit
set_option linter.unusedSimpArgs false
set_option linter.unusedVariables false

set_option maxRecDepth 100000 in
theorem rmayattr_any (n : Int) : Pure 41 #[.int .i64 n] (.bool (mayA n)) := fun w => by
  unfold mayA
  by_cases h1 : -1099511627776 ≤ n
  · by_cases h2 : n ≤ 1099511627776
    · rw [decide_eq_true ⟨h1, h2⟩]
      go_enter Tryz.func41, Tryz.ntmps41
      go_wp2
      go_ret
      exact ⟨rfl, Below.refl _ _⟩
    · rw [decide_eq_false (fun h => h2 h.2)]
      go_enter Tryz.func41, Tryz.ntmps41
      go_wp2
      go_ret
      exact ⟨rfl, Below.refl _ _⟩
  · rw [decide_eq_false (fun h => h1 h.1)]
    go_enter Tryz.func41, Tryz.ntmps41
    go_wp2
    go_ret
    exact ⟨rfl, Below.refl _ _⟩
set_option maxRecDepth 100000 in
set_option maxHeartbeats 4000000 in
theorem rfindV (A : Option Addr) (n c : Nat) (Vs : List VC) (B : Option Addr) (m k : Nat) (Es : List EC) (x1 x2 : Int) (w : World) (h : RdS w w.heap.size 5 A n c (rowsV vC Vs)) (hn : n ≤ 140737488355328) :
    Calls Tryz.prog 109 #[.agg #[.slice A n c, .slice B m k], .agg #[.int .i64 x1, .int .i64 x2]] w fun e w' => e = .returned (.tuple #[.agg (vC (fndV Vs (x1, x2)).1).toArray, .bool (fndV Vs (x1, x2)).2]) ∧ Below w.heap.size w w' := by
  have H := Lib.hid h
  have Hl := Lib.hid (h.rlen vC_len (by decide))
  obtain ⟨⟨r, ok⟩, gr⟩ : ∃ z, fndV Vs (x1, x2) = z := ⟨_, rfl⟩
  rw [gr]
  have HG := Lib.hid gr
  clear h gr
  go_enter Tryz.func109, Tryz.ntmps109
  go_wp2
  have hx0 : Whole (((w.alloc (.cells #[.slice A n c, .slice B m k] 25)).alloc (.cells #[.int .i64 x1, .int .i64 x2] 41)).alloc (.cells #[.int .i64 0, .int .i64 0, .slice none 0 0, .string { data := #[] }, .int .i64 0] 47)) (w.heap.size) 25 [.slice A n c, .slice B m k] := (((Whole.new_ w 25 [.slice A n c, .slice B m k]).alloc (.cells #[.int .i64 x1, .int .i64 x2] 41)).alloc (.cells #[.int .i64 0, .int .i64 0, .slice none 0 0, .string { data := #[] }, .int .i64 0] 47))
  have hx1 : Whole (((w.alloc (.cells #[.slice A n c, .slice B m k] 25)).alloc (.cells #[.int .i64 x1, .int .i64 x2] 41)).alloc (.cells #[.int .i64 0, .int .i64 0, .slice none 0 0, .string { data := #[] }, .int .i64 0] 47)) (w.heap.size + 1) 41 [.int .i64 x1, .int .i64 x2] := ((Whole.new2 (w := (w.alloc (.cells #[.slice A n c, .slice B m k] 25))) (by simp)).alloc (.cells #[.int .i64 0, .int .i64 0, .slice none 0 0, .string { data := #[] }, .int .i64 0] 47))
  have hx2 : Whole (((w.alloc (.cells #[.slice A n c, .slice B m k] 25)).alloc (.cells #[.int .i64 x1, .int .i64 x2] 41)).alloc (.cells #[.int .i64 0, .int .i64 0, .slice none 0 0, .string { data := #[] }, .int .i64 0] 47)) (w.heap.size + 1 + 1) 47 [.int .i64 0, .int .i64 0, .slice none 0 0, .string { data := #[] }, .int .i64 0] := (Whole.new2 (w := ((w.alloc (.cells #[.slice A n c, .slice B m k] 25)).alloc (.cells #[.int .i64 x1, .int .i64 x2] 41))) (by simp))
  have hbl : Below w.heap.size w (((w.alloc (.cells #[.slice A n c, .slice B m k] 25)).alloc (.cells #[.int .i64 x1, .int .i64 x2] 41)).alloc (.cells #[.int .i64 0, .int .i64 0, .slice none 0 0, .string { data := #[] }, .int .i64 0] 47)) := (bel_al (bel_al (below1 w (.cells #[.slice A n c, .slice B m k] 25)) (.cells #[.int .i64 x1, .int .i64 x2] 41)) (.cells #[.int .i64 0, .int .i64 0, .slice none 0 0, .string { data := #[] }, .int .i64 0] 47))
  have hsz : w.heap.size + 1 + 1 + 1 ≤ ((((w.alloc (.cells #[.slice A n c, .slice B m k] 25)).alloc (.cells #[.int .i64 x1, .int .i64 x2] 41)).alloc (.cells #[.int .i64 0, .int .i64 0, .slice none 0 0, .string { data := #[] }, .int .i64 0] 47))).heap.size := by simp
  obtain ⟨W0, gW0⟩ : ∃ z, (((w.alloc (.cells #[.slice A n c, .slice B m k] 25)).alloc (.cells #[.int .i64 x1, .int .i64 x2] 41)).alloc (.cells #[.int .i64 0, .int .i64 0, .slice none 0 0, .string { data := #[] }, .int .i64 0] 47)) = z := ⟨_, rfl⟩
  rw [gW0] at hx0 hx1 hx2 hbl hsz
  obtain ⟨b2, gb2⟩ : ∃ z, w.heap.size + 1 + 1 = z := ⟨_, rfl⟩
  rw [gb2] at hx2
  obtain ⟨b1, gb1⟩ : ∃ z, w.heap.size + 1 = z := ⟨_, rfl⟩
  rw [gb1] at hx1
  obtain ⟨b0, gb0⟩ : ∃ z, w.heap.size = z := ⟨_, rfl⟩
  rw [gb0] at hx0
  have HX0 := Lib.hid hx0
  have HX1 := Lib.hid hx1
  have HX2 := Lib.hid hx2
  have HB0 := Lib.hid hbl
  have HS0 := Lib.hid hsz
  have Gb0 := Lib.hid gb0
  have Lb0 : RowKit.Hid (w.heap.size ≤ b0) := Lib.hid (by omega)
  have Gb1 := Lib.hid gb1
  have Lb1 : RowKit.Hid (w.heap.size ≤ b1) := Lib.hid (by omega)
  have Gb2 := Lib.hid gb2
  have Lb2 : RowKit.Hid (w.heap.size ≤ b2) := Lib.hid (by omega)
  have N01 : RowKit.Hid (b0 ≠ b1) := Lib.hid (by omega)
  have N02 : RowKit.Hid (b0 ≠ b2) := Lib.hid (by omega)
  have N12 : RowKit.Hid (b1 ≠ b2) := Lib.hid (by omega)
  rw [gW0, gb2, gb1, gb0]
  clear gW0 hbl hsz hx0 hx1 hx2 gb0 gb1 gb2
  go_loopw [6] (fun si wr => ∃ j : Nat, j ≤ n ∧ si = .int .i64 j ∧ RowKit.Hid (Below w.heap.size w wr) ∧ RowKit.Hid (Whole wr b0 25 [.slice A n c, .slice B m k]) ∧ RowKit.Hid (Whole wr b1 41 [.int .i64 x1, .int .i64 x2]) ∧ RowKit.Hid (Whole wr b2 47 [.int .i64 0, .int .i64 0, .slice none 0 0, .string { data := #[] }, .int .i64 0]) ∧ RowKit.Hid (fndV (Vs.drop j) (x1, x2) = (r, ok))) (fun si _ => n - (intOf si).toNat)
  case atStart => exact ⟨0, by omega, rfl, HB0, HX0, HX1, HX2, HG⟩
  case round =>
    clear HB0 HX0 HX1 HX2 HG
    obtain ⟨j, hj, rfl, HB, HX0, HX1, HX2, HG⟩ := hrel
    obtain ⟨wo, gwo⟩ : ∃ z, wr = z := ⟨_, rfl⟩
    rw [gwo] at HB HX0 HX1 HX2 ⊢
    clear gwo
    by_cases hjn : j < n
    · obtain ⟨x, hx⟩ : ∃ x, Vs[j]? = some x := ⟨_, List.getElem?_eq_getElem (by have := Hl.out; omega)⟩
      have hdr : Vs.drop j = x :: Vs.drop (j + 1) := by
        rw [List.drop_eq_getElem_cons (List.getElem?_eq_some_iff.1 hx).1, (List.getElem?_eq_some_iff.1 hx).2]
      have hg2 := HG.out
      rw [hdr] at hg2
      have HG2 := Lib.hid hg2
      obtain ⟨bb, off, rfl, hbB, hpl⟩ := H.out.place vC_len (by decide) (by omega)
      have Hbo : RowKit.Hid (bb < wo.heap.size) := Lib.hid (Nat.lt_of_lt_of_le hbB HB.out.size)
      have hbw := HB.out
      have q0 := hpl j _ hx 0 _ rfl
      have q1 := hpl j _ hx 1 _ rfl
      have q2 := hpl j _ hx 2 _ rfl
      have q3 := hpl j _ hx 3 _ rfl
      have q4 := hpl j _ hx 4 _ rfl
      simp only [Addr.add_lit, Nat.add_zero] at q0 q1 q2 q3 q4
      have l0 := (hbw.cell (p := ⟨bb, off + j * 5, none⟩) hbB).trans q0
      have l1 := (hbw.cell (p := ⟨bb, off + j * 5 + 1, none⟩) hbB).trans q1
      have l2 := (hbw.cell (p := ⟨bb, off + j * 5 + 2, none⟩) hbB).trans q2
      have l3 := (hbw.cell (p := ⟨bb, off + j * 5 + 3, none⟩) hbB).trans q3
      have l4 := (hbw.cell (p := ⟨bb, off + j * 5 + 4, none⟩) hbB).trans q4
      clear hbw q0 q1 q2 q3 q4
      obtain ⟨⟨i1, i2⟩, ⟨rA, rn, rc, rL⟩, lb, at_⟩ := x
      have HE := Lib.hid (And.intro l0 (And.intro l1 (And.intro l2 (And.intro l3 l4))))
      have cb := HX0.out.cell (i := 0) rfl
      clear hx hdr hg2 hpl hbB HG
      have ldl0 := l0
      go_upto_region 4 with fail
      clear cb ldl0
      have ldb : ∀ w', Kept Nil_ wo.drew w' → w'.cell? ⟨b0, 0, none⟩ = some (.slice (some ⟨bb, off, none⟩) n c) := fun w' h => h.nil_cell (HX0.out.dr.cell (i := 0) rfl)
      have ldx : ∀ w', Kept Nil_ wo.drew w' → w'.cell? ⟨b1, 0, none⟩ = some (.int .i64 x1) := fun w' h => h.nil_cell (HX1.out.dr.cell (i := 0) rfl)
      have ldy : ∀ w', Kept Nil_ wo.drew w' → w'.cell? ⟨b1, 1, none⟩ = some (.int .i64 x2) := fun w' h => h.nil_cell (HX1.out.dr.cell (i := 1) rfl)
      have lde : ∀ w', Kept Nil_ wo.drew w' → w'.cell? ⟨bb, off + j * 5, none⟩ = some (.int .i64 i1) := fun w' h => h.nil_cell (l0)
      have ldf : ∀ w', Kept Nil_ wo.drew w' → w'.cell? ⟨bb, off + j * 5 + 1, none⟩ = some (.int .i64 i2) := fun w' h => h.nil_cell (l1)
      clear l0 l1 l2 l3 l4
      have heq := fun W => eq_id i1 i2 x1 x2 W
      obtain ⟨bq, gbq⟩ : ∃ z, (i1 == x1 && i2 == x2) = z := ⟨_, rfl⟩
      rw [gbq] at heq
      have Gbq := Lib.hid gbq
      clear gbq
      refine wp_region_reg (Nil_) (by kernel_rfl) ?_
      apply wpR_next 0 (some 14)
      · simp only [List.getElem?_toArray, List.getElem?_cons_succ, List.getElem?_cons_zero]; exact rfl
      · rfl
      · kernel_rfl
      · kernel_rfl
      · kernel_rfl
      · exact fun _ _ _ _ h => h
      apply Exists.intro
      apply And.intro
      · apply yr_run; rfl; intro w' hw'; go_simp; (try with_reducible rfl)
      simp only [Act.put, List.setIfInBounds_toArray, List.set_cons_zero, List.set_cons_succ]
      apply wpR_next 1 (some 15)
      · simp only [List.getElem?_toArray, List.getElem?_cons_succ, List.getElem?_cons_zero]; exact rfl
      · rfl
      · kernel_rfl
      · kernel_rfl
      · kernel_rfl
      · exact fun _ _ _ _ h => h
      apply Exists.intro
      apply And.intro
      · apply yr_run; rfl; intro w' hw'; go_simp; (try with_reducible rfl)
      simp only [Act.put, List.setIfInBounds_toArray, List.set_cons_zero, List.set_cons_succ]
      apply wpR_next 2 (some 16)
      · simp only [List.getElem?_toArray, List.getElem?_cons_succ, List.getElem?_cons_zero]; exact rfl
      · rfl
      · kernel_rfl
      · kernel_rfl
      · kernel_rfl
      · exact fun _ _ _ _ h => h
      apply Exists.intro
      apply And.intro
      · apply yr_run; rfl; intro w' hw'; go_simp; (try with_reducible rfl)
      simp only [Act.put, List.setIfInBounds_toArray, List.set_cons_zero, List.set_cons_succ]
      apply wpR_next 3 (some 17)
      · simp only [List.getElem?_toArray, List.getElem?_cons_succ, List.getElem?_cons_zero]; exact rfl
      · rfl
      · kernel_rfl
      · kernel_rfl
      · kernel_rfl
      · exact fun _ _ _ _ h => h
      apply Exists.intro
      apply And.intro
      · apply yr_run; rfl; intro w' hw'; go_simp; (try with_reducible rfl)
      simp only [Act.put, List.setIfInBounds_toArray, List.set_cons_zero, List.set_cons_succ]
      apply wpR_next 4 (some 18)
      · simp only [List.getElem?_toArray, List.getElem?_cons_succ, List.getElem?_cons_zero]; exact rfl
      · rfl
      · kernel_rfl
      · kernel_rfl
      · kernel_rfl
      · exact fun _ _ _ _ h => h
      apply Exists.intro
      apply And.intro
      · apply yr_run; rfl; intro w' hw'; go_simp; (try with_reducible rfl)
      simp only [Act.put, List.setIfInBounds_toArray, List.set_cons_zero, List.set_cons_succ]
      apply wpR_next 5 (some 19)
      · simp only [List.getElem?_toArray, List.getElem?_cons_succ, List.getElem?_cons_zero]; exact rfl
      · rfl
      · kernel_rfl
      · kernel_rfl
      · kernel_rfl
      · exact fun _ _ _ _ h => h
      apply Exists.intro
      apply And.intro
      · apply yr_run; rfl; intro w' hw'; go_simp; (try with_reducible rfl)
      simp only [Act.put, List.setIfInBounds_toArray, List.set_cons_zero, List.set_cons_succ]
      apply wpR_next 6 (some 20)
      · simp only [List.getElem?_toArray, List.getElem?_cons_succ, List.getElem?_cons_zero]; exact rfl
      · rfl
      · kernel_rfl
      · kernel_rfl
      · kernel_rfl
      · exact fun _ _ _ _ h => h
      apply Exists.intro
      apply And.intro
      · apply yr_run; rfl; intro w' hw'; go_simp; (try with_reducible rfl)
      simp only [Act.put, List.setIfInBounds_toArray, List.set_cons_zero, List.set_cons_succ]
      apply wpR_next 7 (some 21)
      · simp only [List.getElem?_toArray, List.getElem?_cons_succ, List.getElem?_cons_zero]; exact rfl
      · rfl
      · kernel_rfl
      · kernel_rfl
      · kernel_rfl
      · exact fun _ _ _ _ h => h
      apply Exists.intro
      apply And.intro
      · apply yr_run; rfl; intro w' hw'; go_simp; (try with_reducible rfl)
      simp only [Act.put, List.setIfInBounds_toArray, List.set_cons_zero, List.set_cons_succ]
      refine wpR_done (by kernel_rfl) ?_ _
      intro W3 hw3
      have HX03 := Lib.hid (HX0.out.dr.bl hw3)
      have HX13 := Lib.hid (HX1.out.dr.bl hw3)
      have HX23 := Lib.hid (HX2.out.dr.bl hw3)
      have HE3 : RowKit.Hid (Below wo.heap.size wo W3) := Lib.hid (bel_bl (bel_dr (Below.refl _ _)) hw3)
      have HB3 := Lib.hid (bel_bl HB.out HE3.out)
      clear hw3 ldb ldx ldy lde ldf HB HX0 HX1 HX2 heq
      cases bq with
      | true =>
        have hq := Gbq.out
        rw [Bool.and_eq_true, beq_iff_eq, beq_iff_eq] at hq
        have hg := HG2.out
        rw [fndV, fnd_yes _ _ _ _ _ (by rw [hq.1, hq.2])] at hg
        injection hg with hg1 hg2
        subst hg1 hg2
        obtain ⟨l0, l1, l2, l3, l4⟩ := HE.out
        have hB3 := HE3.out
        have hbo := Hbo.out
        have cb := HX03.out.cell (i := 0) rfl
        have f0 := HX23.out.free 0
        have k0 := HX23.out.cell (i := 0) rfl
        have y0 := (hB3.cell (p := ⟨bb, off + j * 5, none⟩) hbo).trans l0
        have f1 := HX23.out.free 1
        have k1 := HX23.out.cell (i := 1) rfl
        have y1 := (hB3.cell (p := ⟨bb, off + j * 5 + 1, none⟩) hbo).trans l1
        have f2 := HX23.out.free 2
        have k2 := HX23.out.cell (i := 2) rfl
        have y2 := (hB3.cell (p := ⟨bb, off + j * 5 + 2, none⟩) hbo).trans l2
        have f3 := HX23.out.free 3
        have k3 := HX23.out.cell (i := 3) rfl
        have y3 := (hB3.cell (p := ⟨bb, off + j * 5 + 3, none⟩) hbo).trans l3
        have f4 := HX23.out.free 4
        have k4 := HX23.out.cell (i := 4) rfl
        have y4 := (hB3.cell (p := ⟨bb, off + j * 5 + 4, none⟩) hbo).trans l4
        have HY := Lib.hid (((((HX23.out.set_ 0 (.int .i64 i1)).set_ 1 (.int .i64 i2)).set_ 2 (.slice rA rn rc)).set_ 3 (.string lb)).set_ 4 (.int .i64 at_))
        have HBf := Lib.hid (((((HB3.out.setCell (p := ⟨b2, 0, none⟩) Lb2.out (.int .i64 i1)).setCell (p := ⟨b2, 1, none⟩) Lb2.out (.int .i64 i2)).setCell (p := ⟨b2, 2, none⟩) Lb2.out (.slice rA rn rc)).setCell (p := ⟨b2, 3, none⟩) Lb2.out (.string lb)).setCell (p := ⟨b2, 4, none⟩) Lb2.out (.int .i64 at_))
        clear HX23 HG2 HB3 hq l0 l1 l2 l3 l4 HE hB3 HE3
        go_wp2
        exact ret_whole2 rfl b2 rfl rfl HY.out Tryz.underlying47 rfl (by kernel_rfl) rfl ⟨rfl, HBf.out⟩
      | false =>
        have hg := HG2.out
        rw [fndV, fnd_no _ _ _ _ _ (fun e => by
          have e1 : i1 = x1 := congrArg Prod.fst e
          have e2 : i2 = x2 := congrArg Prod.snd e
          have := Gbq.out
          rw [e1, e2] at this
          simp at this)] at hg
        have HG4 := Lib.hid hg
        clear hg HG2 HE HE3
        go_wp2
        go_roundw
        case rel => exact ⟨j + 1, by omega, by go_num, HB3, HX03, HX13, HX23, HG4⟩
        case measure => simp [intOf]; omega
    · obtain rfl : n = j := by omega
      have hg := HG.out
      rw [List.drop_eq_nil_of_le (by have := Hl.out; omega)] at hg
      replace hg : (zV, false) = (r, ok) := hg
      injection hg with hg1 hg2
      subst hg1 hg2
      have cb := HX0.out.cell (i := 0) rfl
      have f0 := HX2.out.free 0
      have k0 := HX2.out.cell (i := 0) rfl
      have f1 := HX2.out.free 1
      have k1 := HX2.out.cell (i := 1) rfl
      have f2 := HX2.out.free 2
      have k2 := HX2.out.cell (i := 2) rfl
      have f3 := HX2.out.free 3
      have k3 := HX2.out.cell (i := 3) rfl
      have f4 := HX2.out.free 4
      have k4 := HX2.out.cell (i := 4) rfl
      have HY := Lib.hid (((((HX2.out.set_ 0 (.int .i64 0)).set_ 1 (.int .i64 0)).set_ 2 (.slice none 0 0)).set_ 3 (.string { data := #[] })).set_ 4 (.int .i64 0))
      have HBf := Lib.hid (((((HB.out.setCell (p := ⟨b2, 0, none⟩) Lb2.out (.int .i64 0)).setCell (p := ⟨b2, 1, none⟩) Lb2.out (.int .i64 0)).setCell (p := ⟨b2, 2, none⟩) Lb2.out (.slice none 0 0)).setCell (p := ⟨b2, 3, none⟩) Lb2.out (.string { data := #[] })).setCell (p := ⟨b2, 4, none⟩) Lb2.out (.int .i64 0))
      clear HG HX2
      go_wp2
      exact ret_whole2 rfl b2 rfl rfl HY.out Tryz.underlying47 rfl (by kernel_rfl) rfl ⟨rfl, HBf.out⟩
set_option maxRecDepth 100000 in
set_option maxHeartbeats 4000000 in
theorem rfindE (A : Option Addr) (n c : Nat) (Vs : List VC) (B : Option Addr) (m k : Nat) (Es : List EC) (x1 x2 : Int) (w : World) (h : RdS w w.heap.size 4 B m k (rowsV eC Es)) (hn : m ≤ 140737488355328) :
    Calls Tryz.prog 62 #[.agg #[.slice A n c, .slice B m k], .agg #[.int .i64 x1, .int .i64 x2]] w fun e w' => e = .returned (.tuple #[.agg (eC (fndE Es (x1, x2)).1).toArray, .bool (fndE Es (x1, x2)).2]) ∧ Below w.heap.size w w' := by
  have H := Lib.hid h
  have Hl := Lib.hid (h.rlen eC_len (by decide))
  obtain ⟨⟨r, ok⟩, gr⟩ : ∃ z, fndE Es (x1, x2) = z := ⟨_, rfl⟩
  rw [gr]
  have HG := Lib.hid gr
  clear h gr
  go_enter Tryz.func62, Tryz.ntmps62
  go_wp2
  have hx0 : Whole (((w.alloc (.cells #[.slice A n c, .slice B m k] 25)).alloc (.cells #[.int .i64 x1, .int .i64 x2] 41)).alloc (.cells #[.int .i64 0, .int .i64 0, .string { data := #[] }, .int .i64 0] 43)) (w.heap.size) 25 [.slice A n c, .slice B m k] := (((Whole.new_ w 25 [.slice A n c, .slice B m k]).alloc (.cells #[.int .i64 x1, .int .i64 x2] 41)).alloc (.cells #[.int .i64 0, .int .i64 0, .string { data := #[] }, .int .i64 0] 43))
  have hx1 : Whole (((w.alloc (.cells #[.slice A n c, .slice B m k] 25)).alloc (.cells #[.int .i64 x1, .int .i64 x2] 41)).alloc (.cells #[.int .i64 0, .int .i64 0, .string { data := #[] }, .int .i64 0] 43)) (w.heap.size + 1) 41 [.int .i64 x1, .int .i64 x2] := ((Whole.new2 (w := (w.alloc (.cells #[.slice A n c, .slice B m k] 25))) (by simp)).alloc (.cells #[.int .i64 0, .int .i64 0, .string { data := #[] }, .int .i64 0] 43))
  have hx2 : Whole (((w.alloc (.cells #[.slice A n c, .slice B m k] 25)).alloc (.cells #[.int .i64 x1, .int .i64 x2] 41)).alloc (.cells #[.int .i64 0, .int .i64 0, .string { data := #[] }, .int .i64 0] 43)) (w.heap.size + 1 + 1) 43 [.int .i64 0, .int .i64 0, .string { data := #[] }, .int .i64 0] := (Whole.new2 (w := ((w.alloc (.cells #[.slice A n c, .slice B m k] 25)).alloc (.cells #[.int .i64 x1, .int .i64 x2] 41))) (by simp))
  have hbl : Below w.heap.size w (((w.alloc (.cells #[.slice A n c, .slice B m k] 25)).alloc (.cells #[.int .i64 x1, .int .i64 x2] 41)).alloc (.cells #[.int .i64 0, .int .i64 0, .string { data := #[] }, .int .i64 0] 43)) := (bel_al (bel_al (below1 w (.cells #[.slice A n c, .slice B m k] 25)) (.cells #[.int .i64 x1, .int .i64 x2] 41)) (.cells #[.int .i64 0, .int .i64 0, .string { data := #[] }, .int .i64 0] 43))
  have hsz : w.heap.size + 1 + 1 + 1 ≤ ((((w.alloc (.cells #[.slice A n c, .slice B m k] 25)).alloc (.cells #[.int .i64 x1, .int .i64 x2] 41)).alloc (.cells #[.int .i64 0, .int .i64 0, .string { data := #[] }, .int .i64 0] 43))).heap.size := by simp
  obtain ⟨W0, gW0⟩ : ∃ z, (((w.alloc (.cells #[.slice A n c, .slice B m k] 25)).alloc (.cells #[.int .i64 x1, .int .i64 x2] 41)).alloc (.cells #[.int .i64 0, .int .i64 0, .string { data := #[] }, .int .i64 0] 43)) = z := ⟨_, rfl⟩
  rw [gW0] at hx0 hx1 hx2 hbl hsz
  obtain ⟨b2, gb2⟩ : ∃ z, w.heap.size + 1 + 1 = z := ⟨_, rfl⟩
  rw [gb2] at hx2
  obtain ⟨b1, gb1⟩ : ∃ z, w.heap.size + 1 = z := ⟨_, rfl⟩
  rw [gb1] at hx1
  obtain ⟨b0, gb0⟩ : ∃ z, w.heap.size = z := ⟨_, rfl⟩
  rw [gb0] at hx0
  have HX0 := Lib.hid hx0
  have HX1 := Lib.hid hx1
  have HX2 := Lib.hid hx2
  have HB0 := Lib.hid hbl
  have HS0 := Lib.hid hsz
  have Gb0 := Lib.hid gb0
  have Lb0 : RowKit.Hid (w.heap.size ≤ b0) := Lib.hid (by omega)
  have Gb1 := Lib.hid gb1
  have Lb1 : RowKit.Hid (w.heap.size ≤ b1) := Lib.hid (by omega)
  have Gb2 := Lib.hid gb2
  have Lb2 : RowKit.Hid (w.heap.size ≤ b2) := Lib.hid (by omega)
  have N01 : RowKit.Hid (b0 ≠ b1) := Lib.hid (by omega)
  have N02 : RowKit.Hid (b0 ≠ b2) := Lib.hid (by omega)
  have N12 : RowKit.Hid (b1 ≠ b2) := Lib.hid (by omega)
  rw [gW0, gb2, gb1, gb0]
  clear gW0 hbl hsz hx0 hx1 hx2 gb0 gb1 gb2
  go_loopw [6] (fun si wr => ∃ j : Nat, j ≤ m ∧ si = .int .i64 j ∧ RowKit.Hid (Below w.heap.size w wr) ∧ RowKit.Hid (Whole wr b0 25 [.slice A n c, .slice B m k]) ∧ RowKit.Hid (Whole wr b1 41 [.int .i64 x1, .int .i64 x2]) ∧ RowKit.Hid (Whole wr b2 43 [.int .i64 0, .int .i64 0, .string { data := #[] }, .int .i64 0]) ∧ RowKit.Hid (fndE (Es.drop j) (x1, x2) = (r, ok))) (fun si _ => m - (intOf si).toNat)
  case atStart => exact ⟨0, by omega, rfl, HB0, HX0, HX1, HX2, HG⟩
  case round =>
    clear HB0 HX0 HX1 HX2 HG
    obtain ⟨j, hj, rfl, HB, HX0, HX1, HX2, HG⟩ := hrel
    obtain ⟨wo, gwo⟩ : ∃ z, wr = z := ⟨_, rfl⟩
    rw [gwo] at HB HX0 HX1 HX2 ⊢
    clear gwo
    by_cases hjn : j < m
    · obtain ⟨x, hx⟩ : ∃ x, Es[j]? = some x := ⟨_, List.getElem?_eq_getElem (by have := Hl.out; omega)⟩
      have hdr : Es.drop j = x :: Es.drop (j + 1) := by
        rw [List.drop_eq_getElem_cons (List.getElem?_eq_some_iff.1 hx).1, (List.getElem?_eq_some_iff.1 hx).2]
      have hg2 := HG.out
      rw [hdr] at hg2
      have HG2 := Lib.hid hg2
      obtain ⟨bb, off, rfl, hbB, hpl⟩ := H.out.place eC_len (by decide) (by omega)
      have Hbo : RowKit.Hid (bb < wo.heap.size) := Lib.hid (Nat.lt_of_lt_of_le hbB HB.out.size)
      have hbw := HB.out
      have q0 := hpl j _ hx 0 _ rfl
      have q1 := hpl j _ hx 1 _ rfl
      have q2 := hpl j _ hx 2 _ rfl
      have q3 := hpl j _ hx 3 _ rfl
      simp only [Addr.add_lit, Nat.add_zero] at q0 q1 q2 q3
      have l0 := (hbw.cell (p := ⟨bb, off + j * 4, none⟩) hbB).trans q0
      have l1 := (hbw.cell (p := ⟨bb, off + j * 4 + 1, none⟩) hbB).trans q1
      have l2 := (hbw.cell (p := ⟨bb, off + j * 4 + 2, none⟩) hbB).trans q2
      have l3 := (hbw.cell (p := ⟨bb, off + j * 4 + 3, none⟩) hbB).trans q3
      clear hbw q0 q1 q2 q3
      obtain ⟨⟨i1, i2⟩, lb, at_⟩ := x
      have HE := Lib.hid (And.intro l0 (And.intro l1 (And.intro l2 l3)))
      have cb := HX0.out.cell (i := 1) rfl
      clear hx hdr hg2 hpl hbB HG
      have ldl0 := l0
      go_upto_region 4 with fail
      clear cb ldl0
      have ldb : ∀ w', Kept Nil_ wo.drew w' → w'.cell? ⟨b0, 1, none⟩ = some (.slice (some ⟨bb, off, none⟩) m k) := fun w' h => h.nil_cell (HX0.out.dr.cell (i := 1) rfl)
      have ldx : ∀ w', Kept Nil_ wo.drew w' → w'.cell? ⟨b1, 0, none⟩ = some (.int .i64 x1) := fun w' h => h.nil_cell (HX1.out.dr.cell (i := 0) rfl)
      have ldy : ∀ w', Kept Nil_ wo.drew w' → w'.cell? ⟨b1, 1, none⟩ = some (.int .i64 x2) := fun w' h => h.nil_cell (HX1.out.dr.cell (i := 1) rfl)
      have lde : ∀ w', Kept Nil_ wo.drew w' → w'.cell? ⟨bb, off + j * 4, none⟩ = some (.int .i64 i1) := fun w' h => h.nil_cell (l0)
      have ldf : ∀ w', Kept Nil_ wo.drew w' → w'.cell? ⟨bb, off + j * 4 + 1, none⟩ = some (.int .i64 i2) := fun w' h => h.nil_cell (l1)
      clear l0 l1 l2 l3
      have heq := fun W => eq_id i1 i2 x1 x2 W
      obtain ⟨bq, gbq⟩ : ∃ z, (i1 == x1 && i2 == x2) = z := ⟨_, rfl⟩
      rw [gbq] at heq
      have Gbq := Lib.hid gbq
      clear gbq
      refine wp_region_reg (Nil_) (by kernel_rfl) ?_
      apply wpR_next 0 (some 14)
      · simp only [List.getElem?_toArray, List.getElem?_cons_succ, List.getElem?_cons_zero]; exact rfl
      · rfl
      · kernel_rfl
      · kernel_rfl
      · kernel_rfl
      · exact fun _ _ _ _ h => h
      apply Exists.intro
      apply And.intro
      · apply yr_run; rfl; intro w' hw'; go_simp; (try with_reducible rfl)
      simp only [Act.put, List.setIfInBounds_toArray, List.set_cons_zero, List.set_cons_succ]
      apply wpR_next 1 (some 15)
      · simp only [List.getElem?_toArray, List.getElem?_cons_succ, List.getElem?_cons_zero]; exact rfl
      · rfl
      · kernel_rfl
      · kernel_rfl
      · kernel_rfl
      · exact fun _ _ _ _ h => h
      apply Exists.intro
      apply And.intro
      · apply yr_run; rfl; intro w' hw'; go_simp; (try with_reducible rfl)
      simp only [Act.put, List.setIfInBounds_toArray, List.set_cons_zero, List.set_cons_succ]
      apply wpR_next 2 (some 16)
      · simp only [List.getElem?_toArray, List.getElem?_cons_succ, List.getElem?_cons_zero]; exact rfl
      · rfl
      · kernel_rfl
      · kernel_rfl
      · kernel_rfl
      · exact fun _ _ _ _ h => h
      apply Exists.intro
      apply And.intro
      · apply yr_run; rfl; intro w' hw'; go_simp; (try with_reducible rfl)
      simp only [Act.put, List.setIfInBounds_toArray, List.set_cons_zero, List.set_cons_succ]
      apply wpR_next 3 (some 17)
      · simp only [List.getElem?_toArray, List.getElem?_cons_succ, List.getElem?_cons_zero]; exact rfl
      · rfl
      · kernel_rfl
      · kernel_rfl
      · kernel_rfl
      · exact fun _ _ _ _ h => h
      apply Exists.intro
      apply And.intro
      · apply yr_run; rfl; intro w' hw'; go_simp; (try with_reducible rfl)
      simp only [Act.put, List.setIfInBounds_toArray, List.set_cons_zero, List.set_cons_succ]
      apply wpR_next 4 (some 18)
      · simp only [List.getElem?_toArray, List.getElem?_cons_succ, List.getElem?_cons_zero]; exact rfl
      · rfl
      · kernel_rfl
      · kernel_rfl
      · kernel_rfl
      · exact fun _ _ _ _ h => h
      apply Exists.intro
      apply And.intro
      · apply yr_run; rfl; intro w' hw'; go_simp; (try with_reducible rfl)
      simp only [Act.put, List.setIfInBounds_toArray, List.set_cons_zero, List.set_cons_succ]
      apply wpR_next 5 (some 19)
      · simp only [List.getElem?_toArray, List.getElem?_cons_succ, List.getElem?_cons_zero]; exact rfl
      · rfl
      · kernel_rfl
      · kernel_rfl
      · kernel_rfl
      · exact fun _ _ _ _ h => h
      apply Exists.intro
      apply And.intro
      · apply yr_run; rfl; intro w' hw'; go_simp; (try with_reducible rfl)
      simp only [Act.put, List.setIfInBounds_toArray, List.set_cons_zero, List.set_cons_succ]
      apply wpR_next 6 (some 20)
      · simp only [List.getElem?_toArray, List.getElem?_cons_succ, List.getElem?_cons_zero]; exact rfl
      · rfl
      · kernel_rfl
      · kernel_rfl
      · kernel_rfl
      · exact fun _ _ _ _ h => h
      apply Exists.intro
      apply And.intro
      · apply yr_run; rfl; intro w' hw'; go_simp; (try with_reducible rfl)
      simp only [Act.put, List.setIfInBounds_toArray, List.set_cons_zero, List.set_cons_succ]
      apply wpR_next 7 (some 21)
      · simp only [List.getElem?_toArray, List.getElem?_cons_succ, List.getElem?_cons_zero]; exact rfl
      · rfl
      · kernel_rfl
      · kernel_rfl
      · kernel_rfl
      · exact fun _ _ _ _ h => h
      apply Exists.intro
      apply And.intro
      · apply yr_run; rfl; intro w' hw'; go_simp; (try with_reducible rfl)
      simp only [Act.put, List.setIfInBounds_toArray, List.set_cons_zero, List.set_cons_succ]
      refine wpR_done (by kernel_rfl) ?_ _
      intro W3 hw3
      have HX03 := Lib.hid (HX0.out.dr.bl hw3)
      have HX13 := Lib.hid (HX1.out.dr.bl hw3)
      have HX23 := Lib.hid (HX2.out.dr.bl hw3)
      have HE3 : RowKit.Hid (Below wo.heap.size wo W3) := Lib.hid (bel_bl (bel_dr (Below.refl _ _)) hw3)
      have HB3 := Lib.hid (bel_bl HB.out HE3.out)
      clear hw3 ldb ldx ldy lde ldf HB HX0 HX1 HX2 heq
      cases bq with
      | true =>
        have hq := Gbq.out
        rw [Bool.and_eq_true, beq_iff_eq, beq_iff_eq] at hq
        have hg := HG2.out
        rw [fndE, fnd_yes _ _ _ _ _ (by rw [hq.1, hq.2])] at hg
        injection hg with hg1 hg2
        subst hg1 hg2
        obtain ⟨l0, l1, l2, l3⟩ := HE.out
        have hB3 := HE3.out
        have hbo := Hbo.out
        have cb := HX03.out.cell (i := 1) rfl
        have f0 := HX23.out.free 0
        have k0 := HX23.out.cell (i := 0) rfl
        have y0 := (hB3.cell (p := ⟨bb, off + j * 4, none⟩) hbo).trans l0
        have f1 := HX23.out.free 1
        have k1 := HX23.out.cell (i := 1) rfl
        have y1 := (hB3.cell (p := ⟨bb, off + j * 4 + 1, none⟩) hbo).trans l1
        have f2 := HX23.out.free 2
        have k2 := HX23.out.cell (i := 2) rfl
        have y2 := (hB3.cell (p := ⟨bb, off + j * 4 + 2, none⟩) hbo).trans l2
        have f3 := HX23.out.free 3
        have k3 := HX23.out.cell (i := 3) rfl
        have y3 := (hB3.cell (p := ⟨bb, off + j * 4 + 3, none⟩) hbo).trans l3
        have HY := Lib.hid ((((HX23.out.set_ 0 (.int .i64 i1)).set_ 1 (.int .i64 i2)).set_ 2 (.string lb)).set_ 3 (.int .i64 at_))
        have HBf := Lib.hid ((((HB3.out.setCell (p := ⟨b2, 0, none⟩) Lb2.out (.int .i64 i1)).setCell (p := ⟨b2, 1, none⟩) Lb2.out (.int .i64 i2)).setCell (p := ⟨b2, 2, none⟩) Lb2.out (.string lb)).setCell (p := ⟨b2, 3, none⟩) Lb2.out (.int .i64 at_))
        clear HX23 HG2 HB3 hq l0 l1 l2 l3 HE hB3 HE3
        go_wp2
        exact ret_whole2 rfl b2 rfl rfl HY.out Tryz.underlying43 rfl (by kernel_rfl) rfl ⟨rfl, HBf.out⟩
      | false =>
        have hg := HG2.out
        rw [fndE, fnd_no _ _ _ _ _ (fun e => by
          have e1 : i1 = x1 := congrArg Prod.fst e
          have e2 : i2 = x2 := congrArg Prod.snd e
          have := Gbq.out
          rw [e1, e2] at this
          simp at this)] at hg
        have HG4 := Lib.hid hg
        clear hg HG2 HE HE3
        go_wp2
        go_roundw
        case rel => exact ⟨j + 1, by omega, by go_num, HB3, HX03, HX13, HX23, HG4⟩
        case measure => simp [intOf]; omega
    · obtain rfl : m = j := by omega
      have hg := HG.out
      rw [List.drop_eq_nil_of_le (by have := Hl.out; omega)] at hg
      replace hg : (zE, false) = (r, ok) := hg
      injection hg with hg1 hg2
      subst hg1 hg2
      have cb := HX0.out.cell (i := 1) rfl
      have f0 := HX2.out.free 0
      have k0 := HX2.out.cell (i := 0) rfl
      have f1 := HX2.out.free 1
      have k1 := HX2.out.cell (i := 1) rfl
      have f2 := HX2.out.free 2
      have k2 := HX2.out.cell (i := 2) rfl
      have f3 := HX2.out.free 3
      have k3 := HX2.out.cell (i := 3) rfl
      have HY := Lib.hid ((((HX2.out.set_ 0 (.int .i64 0)).set_ 1 (.int .i64 0)).set_ 2 (.string { data := #[] })).set_ 3 (.int .i64 0))
      have HBf := Lib.hid ((((HB.out.setCell (p := ⟨b2, 0, none⟩) Lb2.out (.int .i64 0)).setCell (p := ⟨b2, 1, none⟩) Lb2.out (.int .i64 0)).setCell (p := ⟨b2, 2, none⟩) Lb2.out (.string { data := #[] })).setCell (p := ⟨b2, 3, none⟩) Lb2.out (.int .i64 0))
      clear HG HX2
      go_wp2
      exact ret_whole2 rfl b2 rfl rfl HY.out Tryz.underlying43 rfl (by kernel_rfl) rfl ⟨rfl, HBf.out⟩
end Go.Proofs.YtahbfdhjgnlmdaaGreat
