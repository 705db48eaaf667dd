/- Vertex, Same of the program. -/
import Derived.Test.YtdhglhcpgmfpoaaDg14
namespace Go.Proofs.Ytdhglhcpgmfpoaa
open Go.RowKit
set_option linter.unusedSimpArgs false
set_option linter.unusedVariables false


theorem fndV_ring {w : World} {A B : Option Addr} {n c m k : Nat} {Vs : List VC} {Es : List EC} (h : DgIn w A n c Vs B m k Es) (hr : ∀ x ∈ Vs, x.2.1.2.1 ≤ 1000000) (x : Int × Int) :
    RgOk w (fndV Vs x).1.2.1 ∧ (fndV Vs x).1.2.1.2.1 ≤ 1000000 := by
  rcases fnd_mem (fun v : VC => v.1) zV Vs x with hm | he
  · exact ⟨h.r _ hm, hr _ hm⟩
  · have e : fndV Vs x = (zV, false) := he
    rw [e]
    exact ⟨⟨Nat.zero_le _, RdS.no _ _ _⟩, by decide⟩
set_option maxRecDepth 100000 in
set_option maxHeartbeats 4000000 in
theorem vertex_any (A : Option Addr) (n c : Nat) (Vs : List VC) (B : Option Addr) (m k : Nat) (Es : List EC) (x1 x2 : Int) (w : World) (h : DgIn w A n c Vs B m k Es) (hn : n ≤ 1000000) (hr : ∀ x ∈ Vs, x.2.1.2.1 ≤ 1000000) (r : VC) (ok : Bool) (gr : fndV Vs (x1, x2) = (r, ok)) :
    Calls Try.prog 18 #[.agg #[.slice A n c, .slice B m k], .agg #[.int .i64 x1, .int .i64 x2]] w fun e w' => ∃ A' c', e = .returned (.tuple #[.agg (vC (r.1, (A', r.2.1.2.1, c', r.2.1.2.2.2), r.2.2)).toArray, .bool ok]) ∧ Ow w w.heap.size 36 3 (.slice A' r.2.1.2.1 c') r.2.1.2.1 (dartsV r.2.1.2.2.2) w' := by
  have HF := Lib.hid (fun W (hb : Below w.heap.size w W) => findV A n c Vs x1 x2 W (h.v.bl hb) hn)
  have hring := fndV_ring h hr (x1, x2)
  rw [gr] at HF hring
  have HC := Lib.hid (fun W (hb : Below w.heap.size w W) => cloneV r W (hring.1.below hb) hring.2)
  obtain ⟨⟨i1, i2⟩, ⟨rA, rn, rc, rL⟩, lb, at_⟩ := r
  clear h gr hring hr
  replace HF : RowKit.Hid (∀ W, Below w.heap.size w W → Calls Try.prog 48 #[.slice A n c, .func (.func 35) #[] #[], .agg #[.int .i64 x1, .int .i64 x2]] W fun e w' => e = .returned (.tuple #[.agg #[.int .i64 i1, .int .i64 i2, .slice rA rn rc, .string lb, .int .i64 at_], .bool ok]) ∧ Below W.heap.size W w') := HF
  replace HC : RowKit.Hid (∀ W, Below w.heap.size w W → Calls Try.prog 49 #[.agg #[.int .i64 i1, .int .i64 i2, .slice rA rn rc, .string lb, .int .i64 at_]] W fun e w' => ∃ A' c', e = .returned (.agg #[.int .i64 i1, .int .i64 i2, .slice A' rn c', .string lb, .int .i64 at_]) ∧ Ow W W.heap.size 36 3 (.slice A' rn c') rn (dartsV rL) w') := HC
  show Calls Try.prog 18 #[.agg #[.slice A n c, .slice B m k], .agg #[.int .i64 x1, .int .i64 x2]] w fun e w' => ∃ A' c', e = .returned (.tuple #[.agg #[.int .i64 i1, .int .i64 i2, .slice A' rn c', .string lb, .int .i64 at_], .bool ok]) ∧ Ow w w.heap.size 36 3 (.slice A' rn c') rn (dartsV rL) w'
  go_enter Try.func18, Try.ntmps18
  go_wp2_with fail
  have hx0 : Whole (((w.alloc (.cells #[.slice A n c, .slice B m k] 25)).alloc (.cells #[.int .i64 x1, .int .i64 x2] 34)).alloc (.cells #[.int .i64 0, .int .i64 0, .slice none 0 0, .string { data := #[] }, .int .i64 0] 39)) (w.heap.size) 25 [.slice A n c, .slice B m k] := (((Whole.new_ w 25 [.slice A n c, .slice B m k]).alloc (.cells #[.int .i64 x1, .int .i64 x2] 34)).alloc (.cells #[.int .i64 0, .int .i64 0, .slice none 0 0, .string { data := #[] }, .int .i64 0] 39))
  have hx1 : Whole (((w.alloc (.cells #[.slice A n c, .slice B m k] 25)).alloc (.cells #[.int .i64 x1, .int .i64 x2] 34)).alloc (.cells #[.int .i64 0, .int .i64 0, .slice none 0 0, .string { data := #[] }, .int .i64 0] 39)) (w.heap.size + 1) 34 [.int .i64 x1, .int .i64 x2] := ((Whole.new2 (w := (w.alloc (.cells #[.slice A n c, .slice B m k] 25))) (by simp)).alloc (.cells #[.int .i64 0, .int .i64 0, .slice none 0 0, .string { data := #[] }, .int .i64 0] 39))
  have hx2 : Whole (((w.alloc (.cells #[.slice A n c, .slice B m k] 25)).alloc (.cells #[.int .i64 x1, .int .i64 x2] 34)).alloc (.cells #[.int .i64 0, .int .i64 0, .slice none 0 0, .string { data := #[] }, .int .i64 0] 39)) (w.heap.size + 1 + 1) 39 [.int .i64 0, .int .i64 0, .slice none 0 0, .string { data := #[] }, .int .i64 0] := (Whole.new2 (w := ((w.alloc (.cells #[.slice A n c, .slice B m k] 25)).alloc (.cells #[.int .i64 x1, .int .i64 x2] 34))) (by simp))
  have hbl : Below w.heap.size w (((w.alloc (.cells #[.slice A n c, .slice B m k] 25)).alloc (.cells #[.int .i64 x1, .int .i64 x2] 34)).alloc (.cells #[.int .i64 0, .int .i64 0, .slice none 0 0, .string { data := #[] }, .int .i64 0] 39)) := (bel_al (bel_al (below1 w (.cells #[.slice A n c, .slice B m k] 25)) (.cells #[.int .i64 x1, .int .i64 x2] 34)) (.cells #[.int .i64 0, .int .i64 0, .slice none 0 0, .string { data := #[] }, .int .i64 0] 39))
  have hsz : w.heap.size + 1 + 1 + 1 ≤ ((((w.alloc (.cells #[.slice A n c, .slice B m k] 25)).alloc (.cells #[.int .i64 x1, .int .i64 x2] 34)).alloc (.cells #[.int .i64 0, .int .i64 0, .slice none 0 0, .string { data := #[] }, .int .i64 0] 39))).heap.size := by simp
  obtain ⟨W0, gW0⟩ : ∃ z, (((w.alloc (.cells #[.slice A n c, .slice B m k] 25)).alloc (.cells #[.int .i64 x1, .int .i64 x2] 34)).alloc (.cells #[.int .i64 0, .int .i64 0, .slice none 0 0, .string { data := #[] }, .int .i64 0] 39)) = z := ⟨_, rfl⟩
  rw [gW0] at hx0 hx1 hx2 hbl hsz
  obtain ⟨b2, gb2⟩ : ∃ z, w.heap.size + 1 + 1 = z := ⟨_, rfl⟩
  rw [gb2] at hx2
  obtain ⟨b1, gb1⟩ : ∃ z, w.heap.size + 1 = z := ⟨_, rfl⟩
  rw [gb1] at hx1
  obtain ⟨b0, gb0⟩ : ∃ z, w.heap.size = z := ⟨_, rfl⟩
  rw [gb0] at hx0
  have HX0 := Lib.hid hx0
  have HX1 := Lib.hid hx1
  have HX2 := Lib.hid hx2
  have HB0 := Lib.hid hbl
  have HS0 := Lib.hid hsz
  have Gb0 := Lib.hid gb0
  have Lb0 : RowKit.Hid (w.heap.size ≤ b0) := Lib.hid (by omega)
  have Gb1 := Lib.hid gb1
  have Lb1 : RowKit.Hid (w.heap.size ≤ b1) := Lib.hid (by omega)
  have Gb2 := Lib.hid gb2
  have Lb2 : RowKit.Hid (w.heap.size ≤ b2) := Lib.hid (by omega)
  have N01 : RowKit.Hid (b0 ≠ b1) := Lib.hid (by omega)
  have N02 : RowKit.Hid (b0 ≠ b2) := Lib.hid (by omega)
  have N12 : RowKit.Hid (b1 ≠ b2) := Lib.hid (by omega)
  try rw [gW0, gb2, gb1, gb0]
  clear gW0 hbl hsz hx0 hx1 hx2 gb0 gb1 gb2
  refine (HF.out _ HB0.out).mono ?_
  rintro e W3 ⟨rfl, hb⟩
  have HB3 := Lib.hid (bel_bl HB0.out hb)
  have HX23 := Lib.hid (HX2.out.bl hb)
  clear hb HX2 HX1 HX0 HB0 HF
  go_wp2_with fail
  refine (HC.out _ (bel_al HB3.out _)).mono ?_
  rintro e W4 ⟨A', c', rfl, ho⟩
  have hlt := HX23.out.lt
  have hne := ho.low_ne (g := b2) (by simp; omega)
  have hB4 := bel_bl (bel_al HB3.out (.cells #[.int .i64 i1, .int .i64 i2, .slice rA rn rc, .string lb, .int .i64 at_] 39)) ho.below
  have HX24 := Lib.hid ((HX23.out.alloc (.cells #[.int .i64 i1, .int .i64 i2, .slice rA rn rc, .string lb, .int .i64 at_] 39)).bl ho.below)
  have hO : Ow w w.heap.size 36 3 (.slice A' rn c') rn (dartsV rL) W4 := ⟨own_lo' ho.own (by have := HB3.out.size; simp; omega), hB4, Nat.le_refl _, hB4.size⟩
  have HO := Lib.hid (((((hO.set_far (i := 0) hne Lb2.out (.int .i64 i1)).set_far (i := 1) hne Lb2.out (.int .i64 i2)).set_far (i := 2) hne Lb2.out (.slice A' rn c')).set_far (i := 3) hne Lb2.out (.string lb)).set_far (i := 4) hne Lb2.out (.int .i64 at_))
  have f0 := HX24.out.free 0
  have k0 := HX24.out.cell (i := 0) rfl
  have f1 := HX24.out.free 1
  have k1 := HX24.out.cell (i := 1) rfl
  have f2 := HX24.out.free 2
  have k2 := HX24.out.cell (i := 2) rfl
  have f3 := HX24.out.free 3
  have k3 := HX24.out.cell (i := 3) rfl
  have f4 := HX24.out.free 4
  have k4 := HX24.out.cell (i := 4) rfl
  have HY := Lib.hid (((((HX24.out.set_ 0 (.int .i64 i1)).set_ 1 (.int .i64 i2)).set_ 2 (.slice A' rn c')).set_ 3 (.string lb)).set_ 4 (.int .i64 at_))
  clear hlt hne hB4 hO ho HX23 HX24 HB3 HC
  go_wp2
  exact ret_whole2 rfl b2 rfl rfl HY.out Try.underlying39 rfl (by kernel_rfl) rfl ⟨A', c', rfl, HO.out⟩

/-- What a vertex is, wherever its ring lies. -/
def vS (v : VC) : (Int × Int) × List D × ByteArray × Int := (v.1, v.2.1.2.2.2, v.2.2.1, v.2.2.2)
theorem bytes_inj {t t' : ByteArray} (h : t.toList = t'.toList) : t = t' := by
  rw [ByteArray.toList_eq, ByteArray.toList_eq] at h
  exact ByteArray.ext (Array.toList_inj.1 h)
theorem bytes_iff (s t : ByteArray) : s.toList = t.toList ↔ s = t := ⟨bytes_inj, fun h => by rw [h]⟩
theorem bytes_beq (s t : ByteArray) : (s.toList == t.toList) = decide (s = t) := by
  rw [Bool.eq_iff_iff]
  simp [bytes_iff]
theorem str_eq (s t : ByteArray) (W : World) : (binOp .eql 9 (.string s) (.string t)).run Try.prog W = .ok (.bool (decide (s = t))) W := by
  by_cases h : s = t <;> simp [go_sem, bytes_iff, h]
theorem str_ne (s t : ByteArray) (W : World) : (binOp .neq 9 (.string s) (.string t)).run Try.prog W = .ok (.bool (!decide (s = t))) W := by
  by_cases h : s = t <;> simp [go_sem, bytes_iff, h]
theorem edge_ne (a b : EC) (W : World) : (binOp .neq 43 (.agg (eC a).toArray) (.agg (eC b).toArray)).run Try.prog W = .ok (.bool (!decide (a = b))) W := by
  obtain ⟨⟨a1, a2⟩, a3, a4⟩ := a
  obtain ⟨⟨b1, b2⟩, b3, b4⟩ := b
  by_cases h1 : a1 = b1 <;> by_cases h2 : a2 = b2 <;> by_cases h3 : a3 = b3 <;> by_cases h4 : a4 = b4 <;> simp [go_sem, eC, bytes_iff, h1, h2, h3, h4]
theorem edge_eq (a b : EC) (W : World) : (binOp .eql 43 (.agg (eC a).toArray) (.agg (eC b).toArray)).run Try.prog W = .ok (.bool (decide (a = b))) W := by
  obtain ⟨⟨a1, a2⟩, a3, a4⟩ := a
  obtain ⟨⟨b1, b2⟩, b3, b4⟩ := b
  by_cases h1 : a1 = b1 <;> by_cases h2 : a2 = b2 <;> by_cases h3 : a3 = b3 <;> by_cases h4 : a4 = b4 <;> simp [go_sem, eC, bytes_iff, h1, h2, h3, h4]
set_option maxRecDepth 100000 in
set_option maxHeartbeats 4000000 in
theorem samev_any (u v : VC) (w : World) (hu : RgOk w u.2.1) (hv : RgOk w v.2.1) :
    Calls Try.prog 57 #[.agg (vC u).toArray, .agg (vC v).toArray] w fun e w' => e = .returned (.bool (decide (vS u = vS v))) ∧ Below w.heap.size w w' := by
  obtain ⟨b, gb⟩ : ∃ z, decide (vS u = vS v) = z := ⟨_, rfl⟩
  rw [gb]
  obtain ⟨⟨i1, i2⟩, ⟨rA, rn, rc, rL⟩, lb, at_⟩ := u
  obtain ⟨⟨j1, j2⟩, ⟨sA, sn, sc, sL⟩, kb, bt_⟩ := v
  have hR : RdS w w.heap.size 3 rA rn rc (dartsV rL) := hu.2
  have hS : RdS w w.heap.size 3 sA sn sc (dartsV sL) := hv.2
  have hrc : rn ≤ 9223372036854775807 := Nat.le_trans (Nat.le_trans hR.le hu.1) (by unfold maxLen; omega)
  have HR := Lib.hid hR
  have HS := Lib.hid hS
  have HQ := Lib.hid (fun W (hb : Below w.heap.size w W) => sequal_any rA sA rn sn rc sc rL sL W (hR.bl hb) (hS.bl hb) hrc)
  obtain ⟨br, gbr⟩ : ∃ z, decide (rL = sL) = z := ⟨_, rfl⟩
  rw [gbr] at HQ
  have hid := fun W => eq_id i1 i2 j1 j2 W
  obtain ⟨bi, gbi⟩ : ∃ z, (i1 == j1 && i2 == j2) = z := ⟨_, rfl⟩
  rw [gbi] at hid
  have hst := bytes_beq lb kb
  obtain ⟨bs, gbs⟩ : ∃ z, decide (lb = kb) = z := ⟨_, rfl⟩
  rw [gbs] at hst
  obtain ⟨ba, gba⟩ : ∃ z, (at_ == bt_) = z := ⟨_, rfl⟩
  have hall : b = (bi && bs && ba && br) := by
    rw [← gb, ← gbi, ← gbs, ← gba, ← gbr, Bool.eq_iff_iff]
    simp only [vS, decide_eq_true_eq, Prod.mk.injEq, Bool.and_eq_true, beq_iff_eq]
    constructor
    · rintro ⟨⟨h1, h2⟩, h3, h4, h5⟩; exact ⟨⟨⟨⟨h1, h2⟩, h4⟩, h5⟩, h3⟩
    · rintro ⟨⟨⟨⟨h1, h2⟩, h4⟩, h5⟩, h3⟩; exact ⟨⟨h1, h2⟩, h3, h4, h5⟩
  have HA := Lib.hid hall
  clear hu hv hR hS gb gbi gbs gbr hall hrc
  show Calls Try.prog 57 #[.agg #[.int .i64 i1, .int .i64 i2, .slice rA rn rc, .string lb, .int .i64 at_], .agg #[.int .i64 j1, .int .i64 j2, .slice sA sn sc, .string kb, .int .i64 bt_]] w fun e w' => e = .returned (.bool b) ∧ Below w.heap.size w w'
  have HB2 := Lib.hid (below2 w (.cells #[.int .i64 i1, .int .i64 i2, .slice rA rn rc, .string lb, .int .i64 at_] 39) (.cells #[.int .i64 j1, .int .i64 j2, .slice sA sn sc, .string kb, .int .i64 bt_] 39))
  cases bi with
  | false =>
    go_enter Try.func57, Try.ntmps57
    go_wp2
    go_ret
    exact ⟨by rw [HA.out]; rfl, HB2.out⟩
  | true =>
    cases bs with
    | false =>
      go_enter Try.func57, Try.ntmps57
      go_wp2
      go_ret
      exact ⟨by rw [HA.out]; rfl, HB2.out⟩
    | true =>
      cases ba with
      | false =>
        go_enter Try.func57, Try.ntmps57
        go_wp2
        go_ret
        exact ⟨by rw [HA.out]; rfl, HB2.out⟩
      | true =>
        go_enter Try.func57, Try.ntmps57
        go_wp2_with fail
        refine (HQ.out _ HB2.out).mono ?_
        rintro e W3 ⟨rfl, hb⟩
        have HB3 := Lib.hid (bel_bl HB2.out hb)
        clear hb
        go_wp2
        go_ret
        exact ⟨by rw [HA.out]; simp, HB3.out⟩
set_option maxRecDepth 100000 in
set_option maxHeartbeats 4000000 in
theorem eqfunc_any (A : Option Addr) (n c : Nat) (Vs : List VC) (A' : Option Addr) (n' c' : Nat) (Ws : List VC) (w : World) (h : RdS w w.heap.size 5 A n c (rowsV vC Vs)) (h' : RdS w w.heap.size 5 A' n' c' (rowsV vC Ws))
    (hn : n ≤ 1000000) (hv : ∀ x ∈ Vs, RgOk w x.2.1) (hv' : ∀ x ∈ Ws, RgOk w x.2.1) :
    Calls Try.prog 56 #[.slice A n c, .slice A' n' c', .func (.func 57) #[] #[]] w fun e w' => e = .returned (.bool (decide (Vs.map vS = Ws.map vS))) ∧ Below w.heap.size w w' := by
  have Hu := Lib.hid h
  have Hv := Lib.hid h'
  have HRu := Lib.hid hv
  have HRv := Lib.hid hv'
  have Hlu := Lib.hid (h.rlen vC_len (by decide))
  have Hlv := Lib.hid (h'.rlen vC_len (by decide))
  obtain ⟨b, gb⟩ : ∃ z, decide (Vs.map vS = Ws.map vS) = z := ⟨_, rfl⟩
  rw [gb]
  have HG := Lib.hid gb
  clear h h' hv hv' gb
  by_cases hnn : n = n'
  · subst hnn
    go_enter Try.func56, Try.ntmps56
    go_wp2
    go_loopw [17] (fun si wr => ∃ j : Nat, j ≤ n ∧ si = .int .i64 j ∧ RowKit.Hid (Below w.heap.size w wr) ∧ RowKit.Hid (decide ((Vs.drop j).map vS = (Ws.drop j).map vS) = b)) (fun si _ => n - (intOf si).toNat)
    case atStart => exact ⟨0, by omega, rfl, Lib.hid (Below.refl _ _), HG⟩
    case round =>
      clear HG
      obtain ⟨j, hj, rfl, HB, HG⟩ := hrel
      obtain ⟨wo, gwo⟩ : ∃ z, wr = z := ⟨_, rfl⟩
      rw [gwo] at HB ⊢
      clear gwo
      by_cases hjn : j < n
      · obtain ⟨xu, hxu⟩ : ∃ x, Vs[j]? = some x := ⟨_, List.getElem?_eq_getElem (by have := Hlu.out; omega)⟩
        obtain ⟨xv, hxv⟩ : ∃ x, Ws[j]? = some x := ⟨_, List.getElem?_eq_getElem (by have := Hlv.out; omega)⟩
        have hg := HG.out
        rw [List.drop_eq_getElem_cons (List.getElem?_eq_some_iff.1 hxu).1, (List.getElem?_eq_some_iff.1 hxu).2, List.drop_eq_getElem_cons (List.getElem?_eq_some_iff.1 hxv).1, (List.getElem?_eq_some_iff.1 hxv).2] at hg
        simp only [List.map_cons, List.cons.injEq] at hg
        have HG2 := Lib.hid hg
        have HSm := Lib.hid (fun W (hb : Below w.heap.size w W) => samev_any xu xv W ((HRu.out xu (List.mem_of_getElem? hxu)).below hb) ((HRv.out xv (List.mem_of_getElem? hxv)).below hb))
        obtain ⟨bs, gbs⟩ : ∃ z, decide (vS xu = vS xv) = z := ⟨_, rfl⟩
        rw [gbs] at HSm
        have Gbs := Lib.hid gbs
        obtain ⟨bbu, offu, rfl, hbBu, hplu⟩ := Hu.out.place vC_len (by decide) (by omega)
        obtain ⟨bbv, offv, rfl, hbBv, hplv⟩ := Hv.out.place vC_len (by decide) (by omega)
        have hbw := HB.out
        have q0 := hplu j _ hxu 0 _ rfl
        have q1 := hplu j _ hxu 1 _ rfl
        have q2 := hplu j _ hxu 2 _ rfl
        have q3 := hplu j _ hxu 3 _ rfl
        have q4 := hplu j _ hxu 4 _ rfl
        simp only [Addr.add_lit, Nat.add_zero] at q0 q1 q2 q3 q4
        have lu0 := (hbw.cell (p := ⟨bbu, offu + j * 5, none⟩) hbBu).trans q0
        have lu1 := (hbw.cell (p := ⟨bbu, offu + j * 5 + 1, none⟩) hbBu).trans q1
        have lu2 := (hbw.cell (p := ⟨bbu, offu + j * 5 + 2, none⟩) hbBu).trans q2
        have lu3 := (hbw.cell (p := ⟨bbu, offu + j * 5 + 3, none⟩) hbBu).trans q3
        have lu4 := (hbw.cell (p := ⟨bbu, offu + j * 5 + 4, none⟩) hbBu).trans q4
        clear hbw q0 q1 q2 q3 q4
        have hbw := bel_al HB.out (.cells (vC xu).toArray 39)
        have q0 := hplv j _ hxv 0 _ rfl
        have q1 := hplv j _ hxv 1 _ rfl
        have q2 := hplv j _ hxv 2 _ rfl
        have q3 := hplv j _ hxv 3 _ rfl
        have q4 := hplv j _ hxv 4 _ rfl
        simp only [Addr.add_lit, Nat.add_zero] at q0 q1 q2 q3 q4
        have lv0 := (hbw.cell (p := ⟨bbv, offv + j * 5, none⟩) hbBv).trans q0
        have lv1 := (hbw.cell (p := ⟨bbv, offv + j * 5 + 1, none⟩) hbBv).trans q1
        have lv2 := (hbw.cell (p := ⟨bbv, offv + j * 5 + 2, none⟩) hbBv).trans q2
        have lv3 := (hbw.cell (p := ⟨bbv, offv + j * 5 + 3, none⟩) hbBv).trans q3
        have lv4 := (hbw.cell (p := ⟨bbv, offv + j * 5 + 4, none⟩) hbBv).trans q4
        clear hbw q0 q1 q2 q3 q4
        obtain ⟨⟨i1, i2⟩, ⟨rA, rn, rc, rL⟩, lb, at_⟩ := xu
        obtain ⟨⟨j1, j2⟩, ⟨sA, sn, sc, sL⟩, kb, bt_⟩ := xv
        dsimp only [vC] at lv0 lv1 lv2 lv3 lv4
        replace HSm : RowKit.Hid (∀ W, Below w.heap.size w W → Calls Try.prog 57 #[.agg #[.int .i64 i1, .int .i64 i2, .slice rA rn rc, .string lb, .int .i64 at_], .agg #[.int .i64 j1, .int .i64 j2, .slice sA sn sc, .string kb, .int .i64 bt_]] W fun e w' => e = .returned (.bool bs) ∧ Below W.heap.size W w') := HSm
        clear hxu hxv hg hplu hplv hbBu hbBv HG gbs
        go_wp2_with fail
        refine (HSm.out _ (bel_al (bel_al HB.out _) _)).mono ?_
        rintro e W3 ⟨rfl, hb⟩
        have HB3 : RowKit.Hid (Below w.heap.size w W3) := Lib.hid (bel_bl (bel_al (bel_al HB.out _) _) hb)
        clear hb HSm
        cases bs with
        | false =>
          have hq : b = false := by
            rw [← HG2.out]
            exact decide_eq_false (fun e => of_decide_eq_false Gbs.out e.1)
          clear HG2
          go_wp2
          go_ret
          exact ⟨by subst hq; rfl, HB3.out⟩
        | true =>
          have HG3 : RowKit.Hid (decide ((Vs.drop (j + 1)).map vS = (Ws.drop (j + 1)).map vS) = b) := Lib.hid (by
            rw [← HG2.out, decide_eq_decide]
            exact ⟨fun e => ⟨of_decide_eq_true Gbs.out, e⟩, fun e => e.2⟩)
          clear HG2
          go_wp2
          go_roundw
          case rel => exact ⟨j + 1, by omega, by go_num, HB3, HG3⟩
          case measure => simp [intOf]; omega
      · obtain rfl : n = j := by omega
        have hq : b = true := by
          rw [← HG.out, List.drop_eq_nil_of_le (by have := Hlu.out; omega), List.drop_eq_nil_of_le (by have := Hlv.out; omega)]
          rfl
        clear HG
        go_wp2
        go_ret
        exact ⟨by subst hq; rfl, HB.out⟩
  · have hq : b = false := by
      rw [← HG.out]
      refine decide_eq_false (fun e => hnn ?_)
      have := congrArg List.length e
      simp at this
      have h1 := Hlu.out
      have h2 := Hlv.out
      omega
    have hne : ((n : Int) != (n' : Int)) = true := by simp; omega
    clear HG
    go_enter Try.func56, Try.ntmps56
    go_wp2
    go_ret
    exact ⟨by subst hq; rfl, Below.refl _ _⟩
theorem cells_at {w W : World} {bb o : Nat} {cs : List Value} (hb : Below w.heap.size w W) (hB : bb < w.heap.size) (h : ∀ j v, cs[j]? = some v → w.cell? (Addr.add ⟨bb, o, none⟩ j) = some v) :
    ∀ w', Kept Nil_ W w' → ∀ j v, cs[j]? = some v → w'.cell? (Addr.add ⟨bb, o, none⟩ j) = some v := fun w' hk j v hv => hk.nil_cell ((hb.cell (by rw [add_block]; exact hB)).trans (h j v hv))
set_option maxRecDepth 100000 in
set_option maxHeartbeats 4000000 in
theorem equalE_any (A : Option Addr) (n c : Nat) (Vs : List EC) (A' : Option Addr) (n' c' : Nat) (Ws : List EC) (w : World) (h : RdS w w.heap.size 4 A n c (rowsV eC Vs)) (h' : RdS w w.heap.size 4 A' n' c' (rowsV eC Ws))
    (hn : n ≤ 1000000) :
    Calls Try.prog 58 #[.slice A n c, .slice A' n' c'] w fun e w' => e = .returned (.bool (decide (Vs = Ws))) ∧ Below w.heap.size w w' := by
  have Hu := Lib.hid h
  have Hv := Lib.hid h'
  have Hlu := Lib.hid (h.rlen eC_len (by decide))
  have Hlv := Lib.hid (h'.rlen eC_len (by decide))
  obtain ⟨b, gb⟩ : ∃ z, decide (Vs = Ws) = z := ⟨_, rfl⟩
  rw [gb]
  have HG := Lib.hid gb
  clear h h' gb
  by_cases hnn : n = n'
  · subst hnn
    go_enter Try.func58, Try.ntmps58
    go_wp2
    go_loopw [13] (fun si wr => ∃ j : Nat, j ≤ n ∧ si = .int .i64 j ∧ RowKit.Hid (Below w.heap.size w wr) ∧ RowKit.Hid (decide (Vs.drop j = Ws.drop j) = b)) (fun si _ => n - (intOf si).toNat)
    case atStart => exact ⟨0, by omega, rfl, Lib.hid (Below.refl _ _), HG⟩
    case round =>
      clear HG
      obtain ⟨j, hj, rfl, HB, HG⟩ := hrel
      obtain ⟨wo, gwo⟩ : ∃ z, wr = z := ⟨_, rfl⟩
      rw [gwo] at HB ⊢
      clear gwo
      by_cases hjn : j < n
      · obtain ⟨xu, hxu⟩ : ∃ x, Vs[j]? = some x := ⟨_, List.getElem?_eq_getElem (by have := Hlu.out; omega)⟩
        obtain ⟨xv, hxv⟩ : ∃ x, Ws[j]? = some x := ⟨_, List.getElem?_eq_getElem (by have := Hlv.out; omega)⟩
        have hg := HG.out
        rw [List.drop_eq_getElem_cons (List.getElem?_eq_some_iff.1 hxu).1, (List.getElem?_eq_some_iff.1 hxu).2, List.drop_eq_getElem_cons (List.getElem?_eq_some_iff.1 hxv).1, (List.getElem?_eq_some_iff.1 hxv).2] at hg
        simp only [List.cons.injEq] at hg
        have HG2 := Lib.hid hg
        have hne := fun W => edge_ne xu xv W
        obtain ⟨bs, gbs⟩ : ∃ z, decide (xu = xv) = z := ⟨_, rfl⟩
        rw [gbs] at hne
        have Gbs := Lib.hid gbs
        obtain ⟨bbu, offu, rfl, hbBu, hplu⟩ := Hu.out.place eC_len (by decide) (by omega)
        obtain ⟨bbv, offv, rfl, hbBv, hplv⟩ := Hv.out.place eC_len (by decide) (by omega)
        have HCu := Lib.hid (cells_at (bel_dr HB.out) hbBu (hplu j xu hxu))
        have HCv := Lib.hid (cells_at (bel_dr HB.out) hbBv (hplv j xv hxv))
        clear hxu hxv hg hplu hplv hbBu hbBv HG gbs
        go_upto_region 6 with fail
        refine wp_region_reg (Nil_) (by kernel_rfl) ?_
        apply wpR_next 0 (some 16)
        · simp only [List.getElem?_toArray, List.getElem?_cons_succ, List.getElem?_cons_zero]; exact rfl
        · rfl
        · kernel_rfl
        · kernel_rfl
        · kernel_rfl
        · exact fun _ _ _ _ h => h
        apply Exists.intro
        apply And.intro
        · apply yr_run; rfl; intro w' hw'; go_simp; (try with_reducible rfl)
        simp only [Act.put, List.setIfInBounds_toArray, List.set_cons_zero, List.set_cons_succ]
        apply wpR_next 1 (some 17)
        · simp only [List.getElem?_toArray, List.getElem?_cons_succ, List.getElem?_cons_zero]; exact rfl
        · rfl
        · kernel_rfl
        · kernel_rfl
        · kernel_rfl
        · exact fun _ _ _ _ h => h
        apply Exists.intro
        apply And.intro
        · apply yr_run; rfl; intro w' hw'; go_simp; (try with_reducible rfl)
        simp only [Act.put, List.setIfInBounds_toArray, List.set_cons_zero, List.set_cons_succ]
        apply wpR_next 2 (some 18)
        · simp only [List.getElem?_toArray, List.getElem?_cons_succ, List.getElem?_cons_zero]; exact rfl
        · rfl
        · kernel_rfl
        · kernel_rfl
        · kernel_rfl
        · exact fun _ _ _ _ h => h
        apply Exists.intro
        apply And.intro
        · apply yr_run; rfl; intro w' hw'; go_simp; (try with_reducible rfl)
        simp only [Act.put, List.setIfInBounds_toArray, List.set_cons_zero, List.set_cons_succ]
        apply wpR_next 3 (some 19)
        · simp only [List.getElem?_toArray, List.getElem?_cons_succ, List.getElem?_cons_zero]; exact rfl
        · rfl
        · kernel_rfl
        · kernel_rfl
        · kernel_rfl
        · exact fun _ _ _ _ h => h
        apply Exists.intro
        apply And.intro
        · exact yr_load_at (by rfl) 43 (.tmp 18) rfl ⟨bbu, offu + j * 4, none⟩ rfl (eC xu) _ HCu.out Try.underlying43 rfl (by kernel_rfl)
        simp only [Act.put, List.setIfInBounds_toArray, List.set_cons_zero, List.set_cons_succ]
        apply wpR_next 4 (some 20)
        · simp only [List.getElem?_toArray, List.getElem?_cons_succ, List.getElem?_cons_zero]; exact rfl
        · rfl
        · kernel_rfl
        · kernel_rfl
        · kernel_rfl
        · exact fun _ _ _ _ h => h
        apply Exists.intro
        apply And.intro
        · apply yr_run; rfl; intro w' hw'; go_simp; (try with_reducible rfl)
        simp only [Act.put, List.setIfInBounds_toArray, List.set_cons_zero, List.set_cons_succ]
        apply wpR_next 5 (some 21)
        · simp only [List.getElem?_toArray, List.getElem?_cons_succ, List.getElem?_cons_zero]; exact rfl
        · rfl
        · kernel_rfl
        · kernel_rfl
        · kernel_rfl
        · exact fun _ _ _ _ h => h
        apply Exists.intro
        apply And.intro
        · apply yr_run; rfl; intro w' hw'; go_simp; (try with_reducible rfl)
        simp only [Act.put, List.setIfInBounds_toArray, List.set_cons_zero, List.set_cons_succ]
        apply wpR_next 6 (some 22)
        · simp only [List.getElem?_toArray, List.getElem?_cons_succ, List.getElem?_cons_zero]; exact rfl
        · rfl
        · kernel_rfl
        · kernel_rfl
        · kernel_rfl
        · exact fun _ _ _ _ h => h
        apply Exists.intro
        apply And.intro
        · apply yr_run; rfl; intro w' hw'; go_simp; (try with_reducible rfl)
        simp only [Act.put, List.setIfInBounds_toArray, List.set_cons_zero, List.set_cons_succ]
        apply wpR_next 7 (some 23)
        · simp only [List.getElem?_toArray, List.getElem?_cons_succ, List.getElem?_cons_zero]; exact rfl
        · rfl
        · kernel_rfl
        · kernel_rfl
        · kernel_rfl
        · exact fun _ _ _ _ h => h
        apply Exists.intro
        apply And.intro
        · exact yr_load_at (by rfl) 43 (.tmp 22) rfl ⟨bbv, offv + j * 4, none⟩ rfl (eC xv) _ HCv.out Try.underlying43 rfl (by kernel_rfl)
        simp only [Act.put, List.setIfInBounds_toArray, List.set_cons_zero, List.set_cons_succ]
        apply wpR_next 8 (some 24)
        · simp only [List.getElem?_toArray, List.getElem?_cons_succ, List.getElem?_cons_zero]; exact rfl
        · rfl
        · kernel_rfl
        · kernel_rfl
        · kernel_rfl
        · exact fun _ _ _ _ h => h
        apply Exists.intro
        apply And.intro
        · exact yr_run (by rfl) (fun w' hw' => exec_binop_agg .neq 43 (.tmp 19) (.tmp 23) 43 rfl rfl rfl (by kernel_rfl) (hne w'))
        simp only [Act.put, List.setIfInBounds_toArray, List.set_cons_zero, List.set_cons_succ]
        refine wpR_done (by kernel_rfl) ?_ _
        intro W3 hw3
        have HB3 : RowKit.Hid (Below w.heap.size w W3) := Lib.hid (bel_bl (bel_dr HB.out) hw3)
        clear hw3 hne HCu HCv
        cases bs with
        | false =>
          have hq : b = false := by
            rw [← HG2.out]
            exact decide_eq_false (fun e => of_decide_eq_false Gbs.out e.1)
          clear HG2
          go_wp2
          go_ret
          exact ⟨by subst hq; rfl, HB3.out⟩
        | true =>
          have HG3 : RowKit.Hid (decide (Vs.drop (j + 1) = Ws.drop (j + 1)) = b) := Lib.hid (by
            rw [← HG2.out, decide_eq_decide]
            exact ⟨fun e => ⟨of_decide_eq_true Gbs.out, e⟩, fun e => e.2⟩)
          clear HG2
          go_wp2
          go_roundw
          case rel => exact ⟨j + 1, by omega, by go_num, HB3, HG3⟩
          case measure => simp [intOf]; omega
      · obtain rfl : n = j := by omega
        have hq : b = true := by
          rw [← HG.out, List.drop_eq_nil_of_le (by have := Hlu.out; omega), List.drop_eq_nil_of_le (by have := Hlv.out; omega)]
          rfl
        clear HG
        go_wp2
        go_ret
        exact ⟨by subst hq; rfl, HB.out⟩
  · have hq : b = false := by
      rw [← HG.out]
      refine decide_eq_false (fun e => hnn ?_)
      have := congrArg List.length e
      have h1 := Hlu.out
      have h2 := Hlv.out
      omega
    have hne : ((n : Int) != (n' : Int)) = true := by simp; omega
    clear HG
    go_enter Try.func58, Try.ntmps58
    go_wp2
    go_ret
    exact ⟨by subst hq; rfl, Below.refl _ _⟩
set_option maxRecDepth 100000 in
set_option maxHeartbeats 4000000 in
theorem same_any (A : Option Addr) (n c : Nat) (Vs : List VC) (B : Option Addr) (m k : Nat) (Es : List EC) (A' : Option Addr) (n' c' : Nat) (Ws : List VC) (B' : Option Addr) (m' k' : Nat) (Fs : List EC) (w : World)
    (h : DgIn w A n c Vs B m k Es) (h' : DgIn w A' n' c' Ws B' m' k' Fs) (hn : n ≤ 1000000) (hm : m ≤ 1000000) :
    Calls Try.prog 29 #[.agg #[.slice A n c, .slice B m k], .agg #[.slice A' n' c', .slice B' m' k']] w fun e w' => e = .returned (.bool (decide (Vs.map vS = Ws.map vS ∧ Es = Fs))) ∧ Below w.heap.size w w' := by
  have HQ := Lib.hid (fun W (hb : Below w.heap.size w W) => eqfunc_any A n c Vs A' n' c' Ws W (h.v.bl hb) (h'.v.bl hb) hn (fun x hx => (h.r x hx).below hb) (fun x hx => (h'.r x hx).below hb))
  have HE := Lib.hid (fun W (hb : Below w.heap.size w W) => equalE_any B m k Es B' m' k' Fs W (h.e.bl hb) (h'.e.bl hb) hm)
  obtain ⟨b, gb⟩ : ∃ z, decide (Vs.map vS = Ws.map vS ∧ Es = Fs) = z := ⟨_, rfl⟩
  obtain ⟨b1, gb1⟩ : ∃ z, decide (Vs.map vS = Ws.map vS) = z := ⟨_, rfl⟩
  obtain ⟨b2, gb2⟩ : ∃ z, decide (Es = Fs) = z := ⟨_, rfl⟩
  have hb : b = (b1 && b2) := by rw [← gb, ← gb1, ← gb2, Bool.decide_and]
  have HA := Lib.hid hb
  rw [gb1] at HQ
  rw [gb2] at HE
  rw [gb]
  clear h h' gb gb1 gb2 hb
  have HB2 := Lib.hid (below2 w (.cells #[.slice A n c, .slice B m k] 25) (.cells #[.slice A' n' c', .slice B' m' k'] 25))
  have HXa := Lib.hid ((Whole.new_ w 25 [.slice A n c, .slice B m k]).alloc (.cells #[.slice A' n' c', .slice B' m' k'] 25))
  have HXb : RowKit.Hid (Whole _ (w.heap.size + 1) 25 [.slice A' n' c', .slice B' m' k']) := Lib.hid (Whole.new2 (w := w.alloc (.cells #[.slice A n c, .slice B m k] 25)) (by simp))
  go_enter Try.func29, Try.ntmps29
  go_wp2_with fail
  refine (HQ.out _ HB2.out).mono ?_
  rintro e W3 ⟨rfl, hb⟩
  have HB3 := Lib.hid (bel_bl HB2.out hb)
  have ka := (HXa.out.bl hb).cell (i := 1) rfl
  have kb := (HXb.out.bl hb).cell (i := 1) rfl
  clear hb HXa HXb
  cases b1 with
  | false =>
    go_wp2
    go_ret
    exact ⟨by rw [HA.out]; rfl, HB3.out⟩
  | true =>
    go_wp2_with fail
    refine (HE.out _ HB3.out).mono ?_
    rintro e W4 ⟨rfl, hb⟩
    have HB4 := Lib.hid (bel_bl HB3.out hb)
    clear hb
    go_wp2
    go_ret
    exact ⟨by rw [HA.out]; simp, HB4.out⟩
end Go.Proofs.Ytdhglhcpgmfpoaa
