/- Several texts in one. -/
import Derived.Test.YtinfbaflkjghhaaSAA
import Derived.Test.YtinfbaflkjghhaaSAG
import Derived.Test.YtinfbaflkjghhaaSAF
/- The document's reader: one, id, corner. -/
set_option linter.unusedSimpArgs false
set_option linter.unusedVariables false
namespace Go.Proofs.Ytinfbaflkjghhaa
open Go.RowKit
/-- Where the document's reader stands: the bytes that are left, and whether something was not there. -/
def RrAt (lo : Nat) (w : World) (g : Nat) (R : List Nat) (bad : Bool) : Prop := ∃ A n c, Whole w g 107 [.slice A n c, .bool bad] ∧ RdS w w.heap.size 1 A n c (rowsV f8 R) ∧ n ≤ 100000 ∧ (∀ a, A = some a → 0 < n → a.block < lo) ∧ lo ≤ g ∧ ∀ b ∈ R, b < 256
theorem RrAt.kept {lo : Nat} {S : Nat → Prop} {w w' : World} {g : Nat} {R : List Nat} {bad : Bool} (h : RrAt lo w g R bad) (hk : Kept S w w') (hg : ¬ S g) (hS : ∀ i, i < lo → ¬ S i) : RrAt lo w' g R bad := by
  obtain ⟨A, n, c, h1, h2, h3, h4, h5, h6⟩ := h
  exact ⟨A, n, c, hk.whole h1 hg, h2.kept_ne hk (fun a ha hn => hS _ (h4 a ha hn)), h3, h4, h5, h6⟩
theorem RrAt.ge {lo : Nat} {w : World} {g : Nat} {R : List Nat} {bad : Bool} (h : RrAt lo w g R bad) : lo ≤ g := by
  obtain ⟨A, n, c, h1, h2, h3, h4, h5, h6⟩ := h
  exact h5
theorem RrAt.bytes {lo : Nat} {w : World} {g : Nat} {R : List Nat} {bad : Bool} (h : RrAt lo w g R bad) : ∀ b ∈ R, b < 256 := by
  obtain ⟨A, n, c, h1, h2, h3, h4, h5, h6⟩ := h
  exact h6
theorem RrAt.len {lo : Nat} {w : World} {g : Nat} {R : List Nat} {bad : Bool} (h : RrAt lo w g R bad) : R.length ≤ 100000 := by
  obtain ⟨A, n, c, h1, h2, h3, h4, h5, h6⟩ := h
  have := h2.rlen f8_len (by decide)
  omega
theorem RrAt.bl {lo : Nat} {w w' : World} {g : Nat} {R : List Nat} {bad : Bool} (h : RrAt lo w g R bad) (hb : Below w.heap.size w w') : RrAt lo w' g R bad := by
  obtain ⟨A, n, c, h1, h2, h3, h4, h5, h6⟩ := h
  exact ⟨A, n, c, h1.bl hb, h2.bl hb, h3, h4, h5, h6⟩
theorem RrAt.al {lo : Nat} {w : World} {g : Nat} {R : List Nat} {bad : Bool} (h : RrAt lo w g R bad) (o : Obj) : RrAt lo (w.alloc o) g R bad := h.bl (below1 w o)
theorem RrAt.lt {lo : Nat} {w : World} {g : Nat} {R : List Nat} {bad : Bool} (h : RrAt lo w g R bad) : g < w.heap.size := by
  obtain ⟨A, n, c, h1, h2, h3, h4, h5, h6⟩ := h
  exact h1.lt
theorem RrAt.poke {lo : Nat} {w : World} {g b i : Nat} {R : List Nat} {bad : Bool} (h : RrAt lo w g R bad) (hgb : g < b) (u : Value) : RrAt lo (w.setCell ⟨b, i, none⟩ u) g R bad :=
  h.kept (S := fun k => k = b) (Kept.setCell (S := fun k => k = b) (Kept.refl _ w) (p := ⟨b, i, none⟩) (.inl rfl) u) (fun e => by omega) (fun k hk e => by have := h.ge; omega)
theorem RrAt.row {lo : Nat} {w : World} {g b : Nat} {R : List Nat} {bad : Bool} (h : RrAt lo w g R bad) (hgb : g < b) (cs : Array Value) : RrAt lo (w.setRow b cs) g R bad :=
  h.kept (S := fun k => k = b) (kept_row (S := fun k => k = b) rfl cs) (fun e => by omega) (fun k hk e => by have := h.ge; omega)
theorem RrAt.cells {lo : Nat} {w : World} {g b : Nat} {R : List Nat} {bad : Bool} (h : RrAt lo w g R bad) (hgb : g < b) (o : Nat) (vs : List Value) : RrAt lo (w.setCells b o vs) g R bad :=
  h.kept (S := fun k => k = b) (kept_setCells (S := fun k => k = b) rfl o vs) (fun e => by omega) (fun k hk e => by have := h.ge; omega)
theorem kept_at (w : World) (g i : Nat) (u : Value) : Kept (At1 g) w (w.setCell ⟨g, i, none⟩ u) := Kept.setCell (S := At1 g) (Kept.refl _ w) (p := ⟨g, i, none⟩) (.inl rfl) u
theorem rds_at {w : World} {lo g i n c : Nat} {A : Option Addr} {L : List Nat} (h : RdS w w.heap.size 1 A n c (rowsV f8 L)) (hlo : ∀ a, A = some a → 0 < n → a.block < lo) (hge : lo ≤ g) (u : Value) : RdS (w.setCell ⟨g, i, none⟩ u) (w.setCell ⟨g, i, none⟩ u).heap.size 1 A n c (rowsV f8 L) :=
  h.kept_ne (kept_at w g i u) (fun a ha hn e => by have := hlo a ha hn; have e2 : a.block = g := e; omega)
theorem RrAt.setB {lo : Nat} {w : World} {g : Nat} {R : List Nat} {bad : Bool} (h : RrAt lo w g R bad) (b' : Bool) : RrAt lo (w.setCell ⟨g, 1, none⟩ (.bool b')) g R b' := by
  obtain ⟨A, n, c, h1, h2, h3, h4, h5, h6⟩ := h
  exact ⟨A, n, c, h1.set_ 1 (.bool b'), rds_at h2 h4 h5 _, h3, h4, h5, h6⟩
theorem RrAt.cell1 {lo : Nat} {w : World} {g : Nat} {R : List Nat} {bad : Bool} (h : RrAt lo w g R bad) : w.cell? ⟨g, 1, none⟩ = some (.bool bad) := by
  obtain ⟨A, n, c, h1, h2, h3, h4, h5, h6⟩ := h
  exact h1.cell (i := 1) rfl
theorem RrAt.cell0 {lo : Nat} {w : World} {g : Nat} {R : List Nat} {bad : Bool} (h : RrAt lo w g R bad) : ∃ A n c, w.cell? ⟨g, 0, none⟩ = some (.slice A n c) ∧ RdS w w.heap.size 1 A n c (rowsV f8 R) ∧ n = R.length ∧ n ≤ 100000 ∧ (∀ a, A = some a → 0 < n → a.block < lo) := by
  obtain ⟨A, n, c, h1, h2, h3, h4, h5, h6⟩ := h
  exact ⟨A, n, c, h1.cell (i := 0) rfl, h2, (h2.rlen f8_len (by decide)).symm, h3, h4⟩
theorem RrAt.setR {lo : Nat} {w : World} {g : Nat} {R R' : List Nat} {bad : Bool} {A : Option Addr} {n c : Nat} (h : RrAt lo w g R bad) (hr : RdS w w.heap.size 1 A n c (rowsV f8 R')) (hn : n ≤ 100000) (hlo : ∀ a, A = some a → 0 < n → a.block < lo) (hb : ∀ b ∈ R', b < 256) : RrAt lo (w.setCell ⟨g, 0, none⟩ (.slice A n c)) g R' bad := by
  obtain ⟨A1, n1, c1, h1, h2, h3, h4, h5, h6⟩ := h
  exact ⟨A, n, c, h1.set_ 0 (.slice A n c), rds_at hr hlo h5 _, hn, hlo, h5, hb⟩
theorem RrAt.free {lo : Nat} {w : World} {g : Nat} {R : List Nat} {bad : Bool} (h : RrAt lo w g R bad) (i : Nat) : w.frozen? ⟨g, i, none⟩ = false := by
  obtain ⟨A, n, c, h1, h2, h3, h4, h5, h6⟩ := h
  exact h1.free i
/-- What a call at the reader leaves. -/
def Rr1 (lo : Nat) (w w' : World) (g : Nat) (R : List Nat) (bad : Bool) : Prop := RrAt lo w' g R bad ∧ Kept (At1 g) w w'
set_option maxRecDepth 100000 in
set_option maxHeartbeats 4000000 in
theorem rone_any (lo g : Nat) (L : List Nat) (bad : Bool) (w : World) (h : RrAt lo w g L bad) :
    Calls Try.prog 60 #[.pointer (some ⟨g, 0, none⟩)] w fun e w' => e = .returned (.int .i64 (c1 L : Int)) ∧ Rr1 lo w w' g (L.drop 1) (bad || !decide (1 ≤ L.length)) := by
  have hlt := byte_lt h.bytes
  have h0 := h
  obtain ⟨A, n, c, hw, hr, hn, hlo, hge, hb⟩ := h
  have hl : L.length = n := hr.rlen f8_len (by decide)
  have l0 := hw.cell (i := 0) (v := .slice A n c) rfl
  by_cases hk : 1 ≤ n
  · obtain ⟨x, gx⟩ : ∃ z, c1 L = z := ⟨_, rfl⟩
    have hx : L[0]? = some x := by
      cases L with
      | nil => simp at hl; omega
      | cons a l => rw [← gx]; rfl
    have hlow := hr.low_ hk
    obtain ⟨A1, hA1⟩ : ∃ A1, (if c = 1 then A else A.map (·.add (1 * 1))) = A1 := ⟨_, rfl⟩
    have hlo1 : ∀ a, A1 = some a → 0 < n - 1 → a.block < lo := fun a ha h0 => by
      obtain ⟨a0, ha0, he⟩ := lies_low hA1 a ha
      have := hlo a0 ha0 (by omega)
      omega
    rw [hA1, show (rowsV f8 L).drop (1 * 1) = rowsV f8 (L.drop 1) from by rw [Nat.mul_one, rowsV_map8, rowsV_map8, List.map_drop]] at hlow
    have HS := Lib.hid (h0.setR hlow (by omega) hlo1 (drop_lt hb 1))
    have f0 := hw.free 0
    obtain ⟨bb, off, rfl, -, hp⟩ := byte_at hr (by omega)
    have b0 := hp 0 x hx
    simp only [Nat.add_zero] at b0
    rw [gx] at hlt
    have hwx : IntKind.i64.wrap (x : Int) = (x : Int) := IntWalk.i64_in _ (by omega)
    have ht : ((n : Int) == 0) = false := by simp; omega
    have hbd : (bad || !decide (1 ≤ L.length)) = bad := by rw [decide_eq_true (by omega)]; simp
    rw [gx, hbd]
    have HA1 := Lib.hid hA1
    have Hk := Lib.hid hk
    clear hw hr hlow hx hp hA1 hk hl hn hlo hge hlo1 hb h0 hlt hbd gx
    go_enter Try.func60, Try.ntmps60
    go_upto_region 5 with fail
    clear ht
    refine wp_region_lit ?_
    refine wl_read (v := ?_) (some 19) rfl (by rfl) ?_ ?_
    rotate_left
    · go_simp; (try with_reducible rfl)
    simp only [Act.put, stA_, st0_, st1_]
    refine wl_read (v := ?_) (some 20) rfl (by rfl) ?_ ?_
    rotate_left
    · go_simp; (try with_reducible rfl)
    simp only [Act.put, stA_, st0_, st1_]
    refine wl_read (v := ?_) (some 21) rfl (by rfl) ?_ ?_
    rotate_left
    · go_simp; (try with_reducible rfl)
    simp only [Act.put, stA_, st0_, st1_]
    refine wl_read (v := ?_) (some 22) rfl (by rfl) ?_ ?_
    rotate_left
    · go_simp; (try with_reducible rfl)
    simp only [Act.put, stA_, st0_, st1_]
    refine wl_read (v := ?_) (some 23) rfl (by rfl) ?_ ?_
    rotate_left
    · go_simp; (try with_reducible rfl)
    simp only [Act.put, stA_, st0_, st1_]
    refine wl_run (some 24) rfl (by rfl) (exec_slice_low_as 23 5 (.tmp 23) (.const (.int .i64 1)) rfl Try.underlying23 (s := 1) (by kernel_rfl) rfl rfl Hk.out HA1.out rfl rfl) ?_
    simp only [Act.put, stA_, st0_, st1_]
    go_wp2
    go_ret
    exact ⟨rfl, HS.out, kept_at _ _ _ _⟩
  · obtain rfl : n = 0 := by omega
    obtain rfl : L = [] := List.eq_nil_of_length_eq_zero hl
    have l1 := hw.cell (i := 1) (v := .bool bad) rfl
    have f1 := hw.free 1
    have HS := Lib.hid (h0.setB true)
    have hbd : (bad || !decide (1 ≤ ([] : List Nat).length)) = true := by simp
    rw [hbd]
    clear hw hr hk hl hn hlo hge hb h0 hlt hbd
    go_enter Try.func60, Try.ntmps60
    go_wp2
    go_ret
    exact ⟨rfl, HS.out, kept_at _ _ _ _⟩
set_option maxRecDepth 100000 in
set_option maxHeartbeats 4000000 in
theorem rrid_any (lo g : Nat) (L : List Nat) (bad : Bool) (w : World) (h : RrAt lo w g L bad) :
    Calls Try.prog 75 #[.pointer (some ⟨g, 0, none⟩)] w fun e w' => ∃ x1 x2 R, e = .returned (.agg #[.int .i64 x1, .int .i64 x2]) ∧ Rr1 lo w w' g R (bad || !idT L) ∧ (idT L = true → (x1, x2) = vI L ∧ R = lI L) := by
  have hb := h.bytes
  have HR0 := Lib.hid (h.al (.cells #[.int .i64 0, .int .i64 0] 47))
  obtain ⟨A, n, c, l0', hr0, hnl, hn, hlo⟩ := HR0.out.cell0
  have HT := Lib.hid (ridtake_any A n c L _ hr0 hb hn)
  have Hlo := Lib.hid hlo
  have HX0 : RowKit.Hid (Whole (w.alloc (.cells #[.int .i64 0, .int .i64 0] 47)) w.heap.size 47 [.int .i64 0, .int .i64 0]) := Lib.hid (Whole.new_ _ _ [_, _])
  have HK0 : RowKit.Hid (Kept (At1 g) w (w.alloc (.cells #[.int .i64 0, .int .i64 0] 47))) := Lib.hid (Kept.of_below (below1 w _))
  have Hgb : RowKit.Hid (g < w.heap.size) := Lib.hid h.lt
  have Hnl : RowKit.Hid (n = L.length ∧ n ≤ 100000 ∧ ∀ b ∈ L, b < 256) := Lib.hid ⟨hnl, hn, hb⟩
  clear h hb hr0 hnl hn hlo
  go_enter Try.func75, Try.ntmps75
  go_upto_region 1 with fail
  obtain ⟨w0, gw0⟩ : ∃ z, w.alloc (.cells #[.int .i64 0, .int .i64 0] 47) = z := ⟨_, rfl⟩
  obtain ⟨b, gb⟩ : ∃ z, w.heap.size = z := ⟨_, rfl⟩
  rw [gw0] at HX0 HK0 HR0 HT l0' ⊢
  rw [gb] at HX0 Hgb ⊢
  have Gb := Lib.hid gb
  clear gw0 gb
  go_upto_region 2 with (first
    | (go_at_call 97
       refine HT.out.mono ?_
       rintro e w1 ⟨x1, x2, A1, n1, c1', R, rfl, hr1, ht1, hok, hlies, hb1⟩
       have HX1 := Lib.hid ((HX0.out.bl hb1).al (.cells #[.int .i64 x1, .int .i64 x2] 47))
       have HR1 := Lib.hid ((HR0.out.bl hb1).al (.cells #[.int .i64 x1, .int .i64 x2] 47))
       have HK1 := Lib.hid ((HK0.out.trans (Kept.of_below hb1)).alloc (.cells #[.int .i64 x1, .int .i64 x2] 47))
       have HY1 : RowKit.Hid (Whole (w1.alloc (.cells #[.int .i64 x1, .int .i64 x2] 47)) w1.heap.size 47 [.int .i64 x1, .int .i64 x2]) := Lib.hid (Whole.new_ _ _ [_, _])
       have Hr1 := Lib.hid (hr1.al (.cells #[.int .i64 x1, .int .i64 x2] 47))
       have Hgb5 : RowKit.Hid (g < w1.heap.size ∧ b < w1.heap.size) := Lib.hid ⟨(HR0.out.bl hb1).lt, (HX0.out.bl hb1).lt⟩
       have hn1 : n1 ≤ n := by
         obtain ⟨t, rfl⟩ := ht1
         have h1 := hr1.rlen f8_len (by decide)
         rw [List.length_drop] at h1
         have := Hnl.out.1
         omega
       have Hlo1 : RowKit.Hid (∀ a, A1 = some a → 0 < n1 → a.block < lo) := Lib.hid (fun a ha h0 => by
         obtain ⟨a0, ha0, he⟩ := hlies a ha
         have := Hlo.out a0 ha0 (by omega)
         omega)
       have Hbr : RowKit.Hid (n1 ≤ 100000 ∧ ∀ b ∈ R, b < 256) := Lib.hid ⟨by have := Hnl.out.2.1; omega, by
         obtain ⟨t, rfl⟩ := ht1
         exact drop_lt Hnl.out.2.2 t⟩
       have HOk : RowKit.Hid (idT L = true → (x1, x2) = vI L ∧ R = lI L) := Lib.hid (fun q => by
         have h1 := hok q
         have h2 := idT_vI q
         exact ⟨h1.1.trans h2.1.symm, h1.2.trans h2.2.symm⟩)
       clear hb1 hr1 ht1 hok hlies hn1 l0'))
  obtain ⟨w2, gw2⟩ : ∃ z, w1.alloc (.cells #[.int .i64 x1, .int .i64 x2] 47) = z := ⟨_, rfl⟩
  obtain ⟨b5, gb5⟩ : ∃ z, w1.heap.size = z := ⟨_, rfl⟩
  rw [gw2] at HX1 HR1 HK1 HY1 Hr1 ⊢
  rw [gb5] at HY1 Hgb5 ⊢
  clear gw2 gb5 HX0 HR0 HK0 HT
  obtain ⟨Ao, no, co, l0, -, -, -, -⟩ := HR1.out.cell0
  have f0 := HR1.out.free 0
  go_upto_region 3 with fail
  clear l0 f0
  have hk3 : Kept (At1 g) w2 (w2.setCell ⟨g, 0, none⟩ (.slice A1 n1 c1')) := kept_at _ _ _ _
  have HR3 := Lib.hid (HR1.out.setR Hr1.out Hbr.out.1 Hlo1.out Hbr.out.2)
  have HX3 := Lib.hid (hk3.whole HX1.out (fun e => by have h1 : b = g := e; have := Hgb.out; omega))
  have HY3 := Lib.hid (hk3.whole HY1.out (fun e => by have h1 : b5 = g := e; have := Hgb5.out; omega))
  have HK3 := Lib.hid (HK1.out.trans hk3)
  obtain ⟨w3, gw3⟩ : ∃ z, w2.setCell ⟨g, 0, none⟩ (.slice A1 n1 c1') = z := ⟨_, rfl⟩
  rw [gw3] at HR3 HX3 HY3 HK3 ⊢
  clear gw3 hk3 HR1 HX1 HY1 HK1
  have m1 := HR3.out.cell1
  have e1 := HR3.out.free 1
  obtain ⟨ok, gok⟩ : ∃ z, idT L = z := ⟨_, rfl⟩
  rw [gok] at HOk ⊢
  have Gok := Lib.hid gok
  clear gok
  cases bad
  · go_upto_region 4 with fail
    clear m1 e1
    have hk5 : Kept (At1 g) w3 (w3.setCell ⟨g, 1, none⟩ (.bool (!ok))) := kept_at _ _ _ _
    have HR5 := Lib.hid (HR3.out.setB (!ok))
    have HX5 := Lib.hid (hk5.whole HX3.out (fun e => by have h1 : b = g := e; have := Hgb.out; omega))
    have HY5 := Lib.hid (hk5.whole HY3.out (fun e => by have h1 : b5 = g := e; have := Hgb5.out; omega))
    have HK5 := Lib.hid (HK3.out.trans hk5)
    obtain ⟨w5, gw5⟩ : ∃ z, w3.setCell ⟨g, 1, none⟩ (.bool (!ok)) = z := ⟨_, rfl⟩
    rw [gw5] at HR5 HX5 HY5 HK5 ⊢
    clear gw5 hk5 HR3 HX3 HY3 HK3
    have d0 := HY5.out.cell (i := 0) rfl
    have d1 := HY5.out.cell (i := 1) rfl
    have q0 := HX5.out.cell (i := 0) rfl
    have q1 := HX5.out.cell (i := 1) rfl
    have f0 := HX5.out.free 0
    have f1 := HX5.out.free 1
    go_wp2
    have HXz := (HX5.out.set_ 0 (.int .i64 x1)).set_ 1 (.int .i64 x2)
    have hc2 := (HR5.out.poke (i := 0) Hgb.out (.int .i64 x1)).poke (i := 1) Hgb.out (.int .i64 x2)
    have hk2 := kept_poke (i := 1) (kept_poke (i := 0) HK5.out (Nat.le_of_eq Gb.out) (.int .i64 x1)) (Nat.le_of_eq Gb.out) (.int .i64 x2)
    exact ret_whole rfl b rfl HXz Try.underlying47 rfl (by kernel_rfl) rfl ⟨x1, x2, R, rfl, ⟨by rw [Gok.out]; exact hc2, hk2⟩, by rw [Gok.out]; exact HOk.out⟩
  · go_upto_region 4 with fail
    clear m1 e1
    have hk5 : Kept (At1 g) w3 (w3.setCell ⟨g, 1, none⟩ (.bool true)) := kept_at _ _ _ _
    have HR5 := Lib.hid (HR3.out.setB true)
    have HX5 := Lib.hid (hk5.whole HX3.out (fun e => by have h1 : b = g := e; have := Hgb.out; omega))
    have HY5 := Lib.hid (hk5.whole HY3.out (fun e => by have h1 : b5 = g := e; have := Hgb5.out; omega))
    have HK5 := Lib.hid (HK3.out.trans hk5)
    obtain ⟨w5, gw5⟩ : ∃ z, w3.setCell ⟨g, 1, none⟩ (.bool true) = z := ⟨_, rfl⟩
    rw [gw5] at HR5 HX5 HY5 HK5 ⊢
    clear gw5 hk5 HR3 HX3 HY3 HK3
    have d0 := HY5.out.cell (i := 0) rfl
    have d1 := HY5.out.cell (i := 1) rfl
    have q0 := HX5.out.cell (i := 0) rfl
    have q1 := HX5.out.cell (i := 1) rfl
    have f0 := HX5.out.free 0
    have f1 := HX5.out.free 1
    go_wp2
    have HXz := (HX5.out.set_ 0 (.int .i64 x1)).set_ 1 (.int .i64 x2)
    have hc2 := (HR5.out.poke (i := 0) Hgb.out (.int .i64 x1)).poke (i := 1) Hgb.out (.int .i64 x2)
    have hk2 := kept_poke (i := 1) (kept_poke (i := 0) HK5.out (Nat.le_of_eq Gb.out) (.int .i64 x1)) (Nat.le_of_eq Gb.out) (.int .i64 x2)
    exact ret_whole rfl b rfl HXz Try.underlying47 rfl (by kernel_rfl) rfl ⟨x1, x2, R, rfl, ⟨by rw [Gok.out]; exact hc2, hk2⟩, by rw [Gok.out]; exact HOk.out⟩
end Go.Proofs.Ytinfbaflkjghhaa
/- The document's reader: corner. -/
namespace Go.Proofs.Ytinfbaflkjghhaa
open Go.RowKit
theorem okC_at {L R : List Nat} (h : idT L = true → R = lI L) (bad : Bool) : (bad || !okC L) = ((((bad || !idT L) || !decide (1 ≤ R.length)) || !decide (c1 R ≤ 2)) || !(decide (c1 R = 0) || idT (R.drop 1))) := by
  unfold okC
  cases hi : idT L with
  | false => cases bad <;> simp
  | true =>
    have e := h hi
    rw [(idT_vI hi).2] at e
    subst e
    generalize decide (1 ≤ (L.drop 4).length) = a
    generalize decide (c1 (L.drop 4) ≤ 2) = b
    generalize decide (c1 (L.drop 4) = 0) = c
    generalize idT ((L.drop 4).drop 1) = d
    cases bad <;> cases a <;> cases b <;> cases c <;> cases d <;> rfl
theorem okC_got {L R : List Nat} (h : idT L = true → R = lI L) (q : okC L = true) : idT L = true ∧ c1 R ≤ 2 ∧ (c1 R = 0 ∨ idT (R.drop 1) = true) := by
  unfold okC at q
  simp only [Bool.and_eq_true, Bool.or_eq_true, decide_eq_true_eq] at q
  obtain ⟨h1, h2, h3, h4⟩ := q
  have e := h h1
  rw [(idT_vI h1).2] at e
  subst e
  exact ⟨h1, h3, h4⟩
set_option maxRecDepth 100000 in
set_option maxHeartbeats 4000000 in
theorem rrcorner_any (lo g : Nat) (L : List Nat) (bad : Bool) (w : World) (h : RrAt lo w g L bad) :
    Calls Try.prog 76 #[.pointer (some ⟨g, 0, none⟩)] w fun e w' => ∃ (v : C5) (R : List Nat), e = .returned (.agg (cC v).toArray) ∧ Rr1 lo w w' g R (bad || !okC L) ∧ (okC L = true → v = crV L ∧ R = crL L) := by
  have HN1 := Lib.hid (fun R bad W h => rrid_any lo g R bad W h)
  have HN2 := Lib.hid (fun R bad W h => rone_any lo g R bad W h)
  have HX0 : RowKit.Hid (Whole (w.alloc (.cells #[.int .i64 0, .int .i64 0, .int .i64 0, .int .i64 0, .int .i64 0] 51)) w.heap.size 51 [.int .i64 0, .int .i64 0, .int .i64 0, .int .i64 0, .int .i64 0]) := Lib.hid (Whole.new_ _ _ [_, _, _, _, _])
  have HC0 := Lib.hid (h.al (.cells #[.int .i64 0, .int .i64 0, .int .i64 0, .int .i64 0, .int .i64 0] 51))
  have HK0 : RowKit.Hid (Kept (At1 g) w (w.alloc (.cells #[.int .i64 0, .int .i64 0, .int .i64 0, .int .i64 0, .int .i64 0] 51))) := Lib.hid (Kept.of_below (below1 w _))
  have Hgb : RowKit.Hid (g < w.heap.size) := Lib.hid h.lt
  clear h
  go_enter Try.func76, Try.ntmps76
  go_upto_region 1 with fail
  obtain ⟨w0, gw0⟩ : ∃ z, w.alloc (.cells #[.int .i64 0, .int .i64 0, .int .i64 0, .int .i64 0, .int .i64 0] 51) = z := ⟨_, rfl⟩
  obtain ⟨b, gb⟩ : ∃ z, w.heap.size = z := ⟨_, rfl⟩
  rw [gw0] at HX0 HK0 HC0 ⊢
  rw [gb] at HX0 Hgb ⊢
  have Gb := Lib.hid gb
  clear gw0 gb
  go_upto_region 2 with (first
    | (go_at_call 75
       refine (HN1.out _ _ _ HC0.out).mono ?_
       rintro e w1 ⟨x1, x2, R1, rfl, hcu, hok⟩
       have HX1 := Lib.hid ((hcu.2.whole HX0.out (fun e => by have h1 : b = g := e; have := Hgb.out; omega)).al (.cells #[.int .i64 x1, .int .i64 x2, .int .i64 0, .int .i64 0, .int .i64 0] 51))
       have HK1 := Lib.hid ((HK0.out.trans hcu.2).alloc (.cells #[.int .i64 x1, .int .i64 x2, .int .i64 0, .int .i64 0, .int .i64 0] 51))
       have HC1 := Lib.hid (hcu.1.al (.cells #[.int .i64 x1, .int .i64 x2, .int .i64 0, .int .i64 0, .int .i64 0] 51))
       have HY1 : RowKit.Hid (Whole (w1.alloc (.cells #[.int .i64 x1, .int .i64 x2, .int .i64 0, .int .i64 0, .int .i64 0] 51)) w1.heap.size 51 [.int .i64 x1, .int .i64 x2, .int .i64 0, .int .i64 0, .int .i64 0]) := Lib.hid (Whole.new_ _ _ [_, _, _, _, _])
       have Hgb5 : RowKit.Hid (g < w1.heap.size ∧ b < w1.heap.size) := Lib.hid ⟨hcu.1.lt, (hcu.2.whole HX0.out (fun e => by have h1 : b = g := e; have := Hgb.out; omega)).lt⟩
       have HOk := Lib.hid hok
       clear hcu hok))
  obtain ⟨w2, gw2⟩ : ∃ z, w1.alloc (.cells #[.int .i64 x1, .int .i64 x2, .int .i64 0, .int .i64 0, .int .i64 0] 51) = z := ⟨_, rfl⟩
  obtain ⟨b5, gb5⟩ : ∃ z, w1.heap.size = z := ⟨_, rfl⟩
  rw [gw2] at HX1 HC1 HK1 HY1 ⊢
  rw [gb5] at HY1 Hgb5 ⊢
  clear gw2 gb5 HX0 HC0 HK0
  go_upto_region 3 with (first
    | (go_at_call 60
       refine (HN2.out _ _ _ HC1.out).mono ?_
       rintro e w3 ⟨rfl, hcu⟩
       have HX3 := Lib.hid (hcu.2.whole HX1.out (fun e => by have h1 : b = g := e; have := Hgb.out; omega))
       have HY3 := Lib.hid (hcu.2.whole HY1.out (fun e => by have h1 : b5 = g := e; have := Hgb5.out; omega))
       have HK3 := Lib.hid (HK1.out.trans hcu.2)
       have HC3 := Lib.hid hcu.1
       clear hcu))
  have hb5 : RowKit.Hid (w.heap.size ≤ b5) := Lib.hid (by have := Gb.out; have := Hgb5.out.2; omega)
  have HAt := Lib.hid (okC_at (fun q => (HOk.out q).2) bad)
  have HGot := Lib.hid (okC_got (L := L) (fun q => (HOk.out q).2))
  clear HX1 HC1 HK1 HY1
  have hs9 := byte_lt HC3.out.bytes
  obtain ⟨sd, gsd⟩ : ∃ z, c1 R1 = z := ⟨_, rfl⟩
  rw [gsd] at HAt HGot ⊢
  have Gsd := Lib.hid gsd
  obtain ⟨sI, gsI⟩ : ∃ z : Int, (sd : Int) = z := ⟨_, rfl⟩
  rw [gsI]
  have hs3 : (0 : Int) ≤ sI ∧ (sd : Int) = sI := ⟨by omega, gsI⟩
  have HsI := Lib.hid hs3
  clear gsd gsI hs9 hs3
  by_cases h0 : sd = 0
  · have q3 : ¬ (2 : Int) < sI := by have := HsI.out; omega
    have q1 : (sI == 1) = false := by have := HsI.out; simp; omega
    have q2 : (sI == 2) = false := by have := HsI.out; simp; omega
    have Hbd : RowKit.Hid ((bad || !okC L) = ((bad || !idT L) || !decide (1 ≤ R1.length))) := Lib.hid (by rw [HAt.out, h0]; simp)
    have HV : RowKit.Hid (okC L = true → ((x1, x2, 0, 0, 0) : C5) = crV L ∧ R1.drop 1 = crL L) := Lib.hid (fun q => by
      obtain ⟨j1, -, -⟩ := HGot.out q
      obtain ⟨j2, j3⟩ := HOk.out j1
      have j4 := Gsd.out
      rw [j3, h0] at j4
      unfold crV crL
      rw [j4, if_neg (by omega), if_neg (by omega), ← j2, j3]
      exact ⟨rfl, rfl⟩)
    clear h0
    go_upto_region 7 with fail
    clear q1 q2 q3
    refine wp_region_lit ?_
    refine wl_load (some 27) rfl (by rfl) 51 (.tmp 3) rfl b5 rfl 51 (cC (x1, x2, 0, 0, 0)) _ HY3.out Try.underlying51 rfl (by kernel_rfl) ?_
    simp only [Act.put, stA_, st0_, st1_]
    refine wpList_store_row rfl 51 (.tmp 2) (.tmp 27) rfl b (cC (x1, x2, 0, 0, 0)).toArray rfl rfl 51 #[.int .i64 0, .int .i64 0, .int .i64 0, .int .i64 0, .int .i64 0] HX3.out (by kernel_rfl) rfl (by simp [cC, Value.oneCell']) ?_
    have HX9 : RowKit.Hid (Whole (w3.setRow b (cC (x1, x2, 0, 0, 0)).toArray) b 51 (cC (x1, x2, 0, 0, 0))) := Lib.hid (Whole.row HX3.out (cC (x1, x2, 0, 0, 0)))
    have HC9 := Lib.hid (HC3.out.row Hgb.out (cC (x1, x2, 0, 0, 0)).toArray)
    have HK9 := Lib.hid (kept_in HK3.out (Nat.le_of_eq Gb.out) (kept_row (S := fun i => i = b) rfl (cC (x1, x2, 0, 0, 0)).toArray))
    go_wp2
    exact ret_whole rfl b rfl HX9.out Try.underlying51 rfl (by kernel_rfl) rfl ⟨(x1, x2, 0, 0, 0), R1.drop 1, rfl, ⟨by rw [Hbd.out]; exact HC9.out, HK9.out⟩, HV.out⟩
  by_cases h3 : 2 < sd
  · have q3 : (2 : Int) < sI := by have := HsI.out; omega
    have q1 : (sI == 1) = false := by have := HsI.out; simp; omega
    have q2 : (sI == 2) = false := by have := HsI.out; simp; omega
    have Hbd : RowKit.Hid ((bad || !okC L) = true) := Lib.hid (by rw [HAt.out, decide_eq_false (by omega : ¬ sd ≤ 2)]; simp)
    have HV : RowKit.Hid (okC L = true → ((x1, x2, 0, 0, 0) : C5) = crV L ∧ R1.drop 1 = crL L) := Lib.hid (fun q => by
      have := (HGot.out q).2.1
      omega)
    have m1 := HC3.out.cell1
    have e1 := HC3.out.free 1
    clear h0 h3
    go_upto_region 5 with fail
    clear m1 e1 q3
    have hk4 : Kept (At1 g) w3 (w3.setCell ⟨g, 1, none⟩ (.bool true)) := kept_at _ _ _ _
    have HC4 := Lib.hid (HC3.out.setB true)
    have HX4 := Lib.hid (hk4.whole HX3.out (fun e => by have h1 : b = g := e; have := Hgb.out; omega))
    have HY4 := Lib.hid (hk4.whole HY3.out (fun e => by have h1 : b5 = g := e; have := Hgb5.out; omega))
    have HK4 := Lib.hid (HK3.out.trans hk4)
    obtain ⟨w4, gw4⟩ : ∃ z, w3.setCell ⟨g, 1, none⟩ (.bool true) = z := ⟨_, rfl⟩
    rw [gw4] at HC4 HX4 HY4 HK4 ⊢
    clear gw4 hk4
    go_upto_region 7 with fail
    clear q1 q2
    refine wp_region_lit ?_
    refine wl_load (some 27) rfl (by rfl) 51 (.tmp 3) rfl b5 rfl 51 (cC (x1, x2, 0, 0, 0)) _ HY4.out Try.underlying51 rfl (by kernel_rfl) ?_
    simp only [Act.put, stA_, st0_, st1_]
    refine wpList_store_row rfl 51 (.tmp 2) (.tmp 27) rfl b (cC (x1, x2, 0, 0, 0)).toArray rfl rfl 51 #[.int .i64 0, .int .i64 0, .int .i64 0, .int .i64 0, .int .i64 0] HX4.out (by kernel_rfl) rfl (by simp [cC, Value.oneCell']) ?_
    have HX9 : RowKit.Hid (Whole (w4.setRow b (cC (x1, x2, 0, 0, 0)).toArray) b 51 (cC (x1, x2, 0, 0, 0))) := Lib.hid (Whole.row HX4.out (cC (x1, x2, 0, 0, 0)))
    have HC9 := Lib.hid (HC4.out.row Hgb.out (cC (x1, x2, 0, 0, 0)).toArray)
    have HK9 := Lib.hid (kept_in HK4.out (Nat.le_of_eq Gb.out) (kept_row (S := fun i => i = b) rfl (cC (x1, x2, 0, 0, 0)).toArray))
    go_wp2
    exact ret_whole rfl b rfl HX9.out Try.underlying51 rfl (by kernel_rfl) rfl ⟨(x1, x2, 0, 0, 0), R1.drop 1, rfl, ⟨by rw [Hbd.out]; exact HC9.out, HK9.out⟩, HV.out⟩
  have q3 : ¬ (2 : Int) < sI := by have := HsI.out; omega
  have hw : IntKind.i64.wrap (sI - 1) = sI - 1 := IntWalk.i64_in _ (by have := HsI.out; omega)
  obtain ⟨tI, gtI⟩ : ∃ z, sI - 1 = z := ⟨_, rfl⟩
  have Hbd : RowKit.Hid ((bad || !okC L) = (((bad || !idT L) || !decide (1 ≤ R1.length)) || !idT (R1.drop 1))) := Lib.hid (by rw [HAt.out, decide_eq_true (by omega : sd ≤ 2), decide_eq_false h0]; simp)
  have HV : RowKit.Hid (∀ (y1 y2 : Int) (R3 : List Nat), (idT (R1.drop 1) = true → (y1, y2) = vI (R1.drop 1) ∧ R3 = lI (R1.drop 1)) → okC L = true → ((x1, x2, y1, y2, tI) : C5) = crV L ∧ R3 = crL L) := Lib.hid (fun y1 y2 R3 hh q => by
    obtain ⟨j1, -, j5⟩ := HGot.out q
    obtain ⟨j2, j3⟩ := HOk.out j1
    obtain ⟨j6, j7⟩ := hh (j5.resolve_left h0)
    have j4 := Gsd.out
    have j8 := HsI.out.2
    rw [j3] at j4 j6 j7
    unfold crV crL
    rw [j4, if_pos (by omega), if_pos (by omega), ← j2, ← j6, j8, gtI]
    exact ⟨rfl, j7⟩)
  replace hw := hw.trans gtI
  have GtI := Lib.hid gtI
  clear gtI
  by_cases h1 : sd = 1
  · have q1 : (sI == 1) = true := by have := HsI.out; simp; omega
    clear h0 h1 h3
    go_upto_region 7 with (first
      | (go_at_call 75
         refine (HN1.out _ _ _ HC3.out).mono ?_
         rintro e w4 ⟨y1, y2, R3, rfl, hcu, hok⟩
         have HX4 := Lib.hid (hcu.2.whole HX3.out (fun e => by have h1 : b = g := e; have := Hgb.out; omega))
         have HY4 := Lib.hid (hcu.2.whole HY3.out (fun e => by have h1 : b5 = g := e; have := Hgb5.out; omega))
         have HK4 := Lib.hid (HK3.out.trans hcu.2)
         have HC4 := Lib.hid hcu.1
         have HVz := Lib.hid (HV.out y1 y2 R3 hok)
         have p2 := HY4.out.cell (i := 2) rfl
         have p3 := HY4.out.cell (i := 3) rfl
         have p4 := HY4.out.cell (i := 4) rfl
         have r2 := HY4.out.free 2
         have r3 := HY4.out.free 3
         have r4 := HY4.out.free 4
         clear hcu hok))
    clear p2 p3 p4 r2 r3 r4 hw
    have HY5 := Lib.hid (((HY4.out.set_ 2 (.int .i64 y1)).set_ 3 (.int .i64 y2)).set_ 4 (.int .i64 tI))
    have HC5 := Lib.hid (((HC4.out.poke (i := 2) Hgb5.out.1 (.int .i64 y1)).poke (i := 3) Hgb5.out.1 (.int .i64 y2)).poke (i := 4) Hgb5.out.1 (.int .i64 tI))
    have HX5 := Lib.hid (((HX4.out.far (p := ⟨b5, 2, none⟩) (by show b ≠ b5; have := Hgb5.out.2; omega) (.int .i64 y1)).far (p := ⟨b5, 3, none⟩) (by show b ≠ b5; have := Hgb5.out.2; omega) (.int .i64 y2)).far (p := ⟨b5, 4, none⟩) (by show b ≠ b5; have := Hgb5.out.2; omega) (.int .i64 tI))
    have HK5 := Lib.hid (kept_poke (i := 4) (kept_poke (i := 3) (kept_poke (i := 2) HK4.out hb5.out (.int .i64 y1)) hb5.out (.int .i64 y2)) hb5.out (.int .i64 tI))
    obtain ⟨w5, gw5⟩ : ∃ z, ((w4.setCell ⟨b5, 2, none⟩ (.int .i64 y1)).setCell ⟨b5, 3, none⟩ (.int .i64 y2)).setCell ⟨b5, 4, none⟩ (.int .i64 tI) = z := ⟨_, rfl⟩
    rw [gw5] at HY5 HC5 HX5 HK5 ⊢
    clear gw5 HX4 HY4 HK4 HC4
    refine wp_region_lit ?_
    refine wl_load (some 27) rfl (by rfl) 51 (.tmp 3) rfl b5 rfl 51 (cC (x1, x2, y1, y2, tI)) _ HY5.out Try.underlying51 rfl (by kernel_rfl) ?_
    simp only [Act.put, stA_, st0_, st1_]
    refine wpList_store_row rfl 51 (.tmp 2) (.tmp 27) rfl b (cC (x1, x2, y1, y2, tI)).toArray rfl rfl 51 #[.int .i64 0, .int .i64 0, .int .i64 0, .int .i64 0, .int .i64 0] HX5.out (by kernel_rfl) rfl (by simp [cC, Value.oneCell']) ?_
    have HX9 : RowKit.Hid (Whole (w5.setRow b (cC (x1, x2, y1, y2, tI)).toArray) b 51 (cC (x1, x2, y1, y2, tI))) := Lib.hid (Whole.row HX5.out (cC (x1, x2, y1, y2, tI)))
    have HC9 := Lib.hid (HC5.out.row Hgb.out (cC (x1, x2, y1, y2, tI)).toArray)
    have HK9 := Lib.hid (kept_in HK5.out (Nat.le_of_eq Gb.out) (kept_row (S := fun i => i = b) rfl (cC (x1, x2, y1, y2, tI)).toArray))
    go_wp2
    exact ret_whole rfl b rfl HX9.out Try.underlying51 rfl (by kernel_rfl) rfl ⟨(x1, x2, y1, y2, tI), R3, rfl, ⟨by rw [Hbd.out]; exact HC9.out, HK9.out⟩, HVz.out⟩
  · have q1 : (sI == 1) = false := by have := HsI.out; simp; omega
    have q2 : (sI == 2) = true := by have := HsI.out; simp; omega
    clear h0 h1 h3
    go_upto_region 7 with (first
      | (go_at_call 75
         refine (HN1.out _ _ _ HC3.out).mono ?_
         rintro e w4 ⟨y1, y2, R3, rfl, hcu, hok⟩
         have HX4 := Lib.hid (hcu.2.whole HX3.out (fun e => by have h1 : b = g := e; have := Hgb.out; omega))
         have HY4 := Lib.hid (hcu.2.whole HY3.out (fun e => by have h1 : b5 = g := e; have := Hgb5.out; omega))
         have HK4 := Lib.hid (HK3.out.trans hcu.2)
         have HC4 := Lib.hid hcu.1
         have HVz := Lib.hid (HV.out y1 y2 R3 hok)
         have p2 := HY4.out.cell (i := 2) rfl
         have p3 := HY4.out.cell (i := 3) rfl
         have p4 := HY4.out.cell (i := 4) rfl
         have r2 := HY4.out.free 2
         have r3 := HY4.out.free 3
         have r4 := HY4.out.free 4
         clear hcu hok))
    clear p2 p3 p4 r2 r3 r4 hw
    have HY5 := Lib.hid (((HY4.out.set_ 2 (.int .i64 y1)).set_ 3 (.int .i64 y2)).set_ 4 (.int .i64 tI))
    have HC5 := Lib.hid (((HC4.out.poke (i := 2) Hgb5.out.1 (.int .i64 y1)).poke (i := 3) Hgb5.out.1 (.int .i64 y2)).poke (i := 4) Hgb5.out.1 (.int .i64 tI))
    have HX5 := Lib.hid (((HX4.out.far (p := ⟨b5, 2, none⟩) (by show b ≠ b5; have := Hgb5.out.2; omega) (.int .i64 y1)).far (p := ⟨b5, 3, none⟩) (by show b ≠ b5; have := Hgb5.out.2; omega) (.int .i64 y2)).far (p := ⟨b5, 4, none⟩) (by show b ≠ b5; have := Hgb5.out.2; omega) (.int .i64 tI))
    have HK5 := Lib.hid (kept_poke (i := 4) (kept_poke (i := 3) (kept_poke (i := 2) HK4.out hb5.out (.int .i64 y1)) hb5.out (.int .i64 y2)) hb5.out (.int .i64 tI))
    obtain ⟨w5, gw5⟩ : ∃ z, ((w4.setCell ⟨b5, 2, none⟩ (.int .i64 y1)).setCell ⟨b5, 3, none⟩ (.int .i64 y2)).setCell ⟨b5, 4, none⟩ (.int .i64 tI) = z := ⟨_, rfl⟩
    rw [gw5] at HY5 HC5 HX5 HK5 ⊢
    clear gw5 HX4 HY4 HK4 HC4
    refine wp_region_lit ?_
    refine wl_load (some 27) rfl (by rfl) 51 (.tmp 3) rfl b5 rfl 51 (cC (x1, x2, y1, y2, tI)) _ HY5.out Try.underlying51 rfl (by kernel_rfl) ?_
    simp only [Act.put, stA_, st0_, st1_]
    refine wpList_store_row rfl 51 (.tmp 2) (.tmp 27) rfl b (cC (x1, x2, y1, y2, tI)).toArray rfl rfl 51 #[.int .i64 0, .int .i64 0, .int .i64 0, .int .i64 0, .int .i64 0] HX5.out (by kernel_rfl) rfl (by simp [cC, Value.oneCell']) ?_
    have HX9 : RowKit.Hid (Whole (w5.setRow b (cC (x1, x2, y1, y2, tI)).toArray) b 51 (cC (x1, x2, y1, y2, tI))) := Lib.hid (Whole.row HX5.out (cC (x1, x2, y1, y2, tI)))
    have HC9 := Lib.hid (HC5.out.row Hgb.out (cC (x1, x2, y1, y2, tI)).toArray)
    have HK9 := Lib.hid (kept_in HK5.out (Nat.le_of_eq Gb.out) (kept_row (S := fun i => i = b) rfl (cC (x1, x2, y1, y2, tI)).toArray))
    go_wp2
    exact ret_whole rfl b rfl HX9.out Try.underlying51 rfl (by kernel_rfl) rfl ⟨(x1, x2, y1, y2, tI), R3, rfl, ⟨by rw [Hbd.out]; exact HC9.out, HK9.out⟩, HVz.out⟩
end Go.Proofs.Ytinfbaflkjghhaa
/- The document's reader: op. -/
namespace Go.Proofs.Ytinfbaflkjghhaa
open Go.RowKit
theorem okO_at {L M : List Nat} (h : idT (L.drop 1) = true → M = lI (L.drop 1)) (bad : Bool) : (bad || !okO L) = (((bad || !decide (1 ≤ L.length)) || !idT (L.drop 1)) || !okFd (c1 L) M) := by
  unfold okO
  cases hi : idT (L.drop 1) with
  | false => cases bad <;> simp
  | true =>
    have e := h hi
    rw [(idT_vI hi).2] at e
    subst e
    generalize decide (1 ≤ L.length) = a
    generalize okFd (c1 L) ((L.drop 1).drop 4) = b
    cases bad <;> cases a <;> cases b <;> rfl
theorem okO_got {L M : List Nat} (h : idT (L.drop 1) = true → M = lI (L.drop 1)) (q : okO L = true) : idT (L.drop 1) = true ∧ okFd (c1 L) M = true := by
  unfold okO at q
  simp only [Bool.and_eq_true, decide_eq_true_eq] at q
  obtain ⟨-, h2, h3⟩ := q
  have e := h h2
  rw [(idT_vI h2).2] at e
  subst e
  exact ⟨h2, h3⟩
/-- What is read behind the kind and the name gives the operation. -/
theorem okO_val {L M R : List Nat} {x1 x2 : Int} {o : OpT} (h : idT (L.drop 1) = true → (x1, x2) = vI (L.drop 1) ∧ M = lI (L.drop 1)) (ho : okFd (c1 L) M = true → o = fdV (c1 L) (x1, x2) M ∧ R = fdL (c1 L) M) (q : okO L = true) : o = opV L ∧ R = opL L := by
  obtain ⟨h1, h2⟩ := okO_got (fun t => (h t).2) q
  obtain ⟨j1, j2⟩ := h h1
  have := ho h2
  rw [j1, j2] at this
  exact this
theorem fd3_at {M R : List Nat} (h : okC M = true → R = crL M) (bad : Bool) : (bad || !okFd 3 M) = ((bad || !okC M) || !okC R) := by
  show (bad || !(okC M && okC (crL M))) = _
  cases hi : okC M with
  | false => cases bad <;> simp
  | true => rw [h hi]; cases bad <;> simp
theorem fd5_at {M R S : List Nat} (h : idT M = true → R = lI M) (h' : idT R = true → S = lI R) (bad : Bool) : (bad || !okFd 5 M) = (((bad || !idT M) || !idT R) || !decide (1 ≤ S.length)) := by
  show (bad || !(idT M && (idT (M.drop 4) && decide (1 ≤ ((M.drop 4).drop 4).length)))) = _
  cases hi : idT M with
  | false => cases bad <;> simp
  | true =>
    have e := h hi
    rw [(idT_vI hi).2] at e
    subst e
    cases hj : idT (M.drop 4) with
    | false => cases bad <;> simp
    | true =>
      have e := h' hj
      rw [(idT_vI hj).2] at e
      subst e
      cases bad <;> simp
theorem fd7_at {M : List Nat} {fI : Int} (hf : fI = (c1 M : Int)) (bad : Bool) : (bad || !okFd 7 M) = (((bad || !decide (1 ≤ M.length)) || decide (1 < fI)) || !isT (M.drop 1)) := by
  show (bad || !((decide (1 ≤ M.length) && decide (c1 M ≤ 1)) && isT (M.drop 1))) = _
  have : decide (1 < fI) = !decide (c1 M ≤ 1) := by
    by_cases q : c1 M ≤ 1
    · rw [decide_eq_true q, decide_eq_false (by omega)]; rfl
    · rw [decide_eq_false q, decide_eq_true (by omega)]; rfl
  rw [this]
  generalize decide (1 ≤ M.length) = a
  generalize decide (c1 M ≤ 1) = b
  generalize isT (M.drop 1) = c
  cases bad <;> cases a <;> cases b <;> cases c <;> rfl
theorem fd8_at {M : List Nat} {fI : Int} (hf : fI = (c1 M : Int)) (bad : Bool) : (bad || !okFd 8 M) = (((bad || !decide (1 ≤ M.length)) || decide (1 < fI)) || !decide (8 ≤ (M.drop 1).length)) := by
  show (bad || !((decide (1 ≤ M.length) && decide (c1 M ≤ 1)) && decide (8 ≤ (M.drop 1).length))) = _
  have : decide (1 < fI) = !decide (c1 M ≤ 1) := by
    by_cases q : c1 M ≤ 1
    · rw [decide_eq_true q, decide_eq_false (by omega)]; rfl
    · rw [decide_eq_false q, decide_eq_true (by omega)]; rfl
  rw [this]
  generalize decide (1 ≤ M.length) = a
  generalize decide (c1 M ≤ 1) = b
  generalize decide (8 ≤ (M.drop 1).length) = c
  cases bad <;> cases a <;> cases b <;> cases c <;> rfl
theorem okF_flag {k : Nat} {M : List Nat} (hk : k = 7 ∨ k = 8) (h : okFd k M = true) : decide (c1 M ≠ 0) = ((c1 M : Int) == 1) := by
  have h2 : okF M = true := by
    rcases hk with rfl | rfl
    · exact (Bool.and_eq_true_iff.1 (show (okF M && isT (M.drop 1)) = true from h)).1
    · exact (Bool.and_eq_true_iff.1 (show (okF M && decide (8 ≤ (M.drop 1).length)) = true from h)).1
  have h3 := of_decide_eq_true (Bool.and_eq_true_iff.1 h2).2
  by_cases q : c1 M = 0
  · rw [q]; rfl
  · rw [show c1 M = 1 by omega]; rfl
theorem rds_hi {w : World} {lo g b i n c : Nat} {A : Option Addr} {L : List Nat} (h : RdS w w.heap.size 1 A n c (rowsV f8 L)) (hlo : ∀ a, A = some a → 0 < n → a.block < lo) (hge : lo ≤ g) (hgb : g < b) (u : Value) : RdS (w.setCell ⟨b, i, none⟩ u) (w.setCell ⟨b, i, none⟩ u).heap.size 1 A n c (rowsV f8 L) :=
  h.kept_ne (kept_at w b i u) (fun a ha hn e => by have := hlo a ha hn; have e2 : a.block = b := e; omega)
set_option maxRecDepth 100000 in
set_option maxHeartbeats 4000000 in
theorem rrop_3 (lo g : Nat) (L : List Nat) (bad : Bool) (w : World) (h : RrAt lo w g L bad) (hk : c1 L = 3) :
    Calls Try.prog 61 #[.pointer (some ⟨g, 0, none⟩)] w fun e w' => ∃ (o : OpT) (R : List Nat), e = .returned (.agg (opCells o).toArray) ∧ Rr1 lo w w' g R (bad || !okO L) ∧ (okO L = true → o = opV L ∧ R = opL L) := by
  have HF1 := Lib.hid (fun R bad W h => rone_any lo g R bad W h)
  have HFI := Lib.hid (fun R bad W h => rrid_any lo g R bad W h)
  have HFC := Lib.hid (fun R bad W h => rrcorner_any lo g R bad W h)
  have HX0 : RowKit.Hid (Whole (w.alloc (.cells #[.int .i64 0, .int .i64 0, .int .i64 0, .int .i64 0, .int .i64 0, .int .i64 0, .int .i64 0, .int .i64 0, .int .i64 0, .int .i64 0, .int .i64 0, .int .i64 0, .int .i64 0, .int .i64 0, .int .i64 0, .int .i64 0, .int .i64 0, .bool false, .string ⟨#[]⟩, .int .i64 0] 53)) w.heap.size 53 (opCells zeroO)) := Lib.hid (Whole.new_ _ _ (opCells zeroO))
  have HC0 := Lib.hid (h.al (.cells #[.int .i64 0, .int .i64 0, .int .i64 0, .int .i64 0, .int .i64 0, .int .i64 0, .int .i64 0, .int .i64 0, .int .i64 0, .int .i64 0, .int .i64 0, .int .i64 0, .int .i64 0, .int .i64 0, .int .i64 0, .int .i64 0, .int .i64 0, .bool false, .string ⟨#[]⟩, .int .i64 0] 53))
  have HK0 : RowKit.Hid (Kept (At1 g) w (w.alloc (.cells #[.int .i64 0, .int .i64 0, .int .i64 0, .int .i64 0, .int .i64 0, .int .i64 0, .int .i64 0, .int .i64 0, .int .i64 0, .int .i64 0, .int .i64 0, .int .i64 0, .int .i64 0, .int .i64 0, .int .i64 0, .int .i64 0, .int .i64 0, .bool false, .string ⟨#[]⟩, .int .i64 0] 53))) := Lib.hid (Kept.of_below (below1 w _))
  have Hgb : RowKit.Hid (g < w.heap.size ∧ lo ≤ g) := Lib.hid ⟨h.lt, h.ge⟩
  obtain ⟨kI, gkI⟩ : ∃ z : Int, (c1 L : Int) = z := ⟨_, rfl⟩
  have GkI := Lib.hid gkI
  have Hk := Lib.hid hk
  have q3 : (kI == 3) = true := by rw [← gkI, hk]; rfl
  have q5 : (kI == 5) = false := by rw [← gkI, hk]; rfl
  have q6 : (kI == 6) = false := by rw [← gkI, hk]; rfl
  have q7 : (kI == 7) = false := by rw [← gkI, hk]; rfl
  have q8 : (kI == 8) = false := by rw [← gkI, hk]; rfl
  have HF1L : RowKit.Hid (∀ W, RrAt lo W g L bad → Calls Try.prog 60 #[.pointer (some ⟨g, 0, none⟩)] W fun e w' => e = .returned (.int .i64 kI) ∧ Rr1 lo W w' g (L.drop 1) (bad || !decide (1 ≤ L.length))) := Lib.hid (fun W h => gkI ▸ rone_any lo g L bad W h)
  clear h gkI hk
  go_enter Try.func61, Try.ntmps61
  go_upto_region 1 with fail
  obtain ⟨w0, gw0⟩ : ∃ z, w.alloc (.cells #[.int .i64 0, .int .i64 0, .int .i64 0, .int .i64 0, .int .i64 0, .int .i64 0, .int .i64 0, .int .i64 0, .int .i64 0, .int .i64 0, .int .i64 0, .int .i64 0, .int .i64 0, .int .i64 0, .int .i64 0, .int .i64 0, .int .i64 0, .bool false, .string ⟨#[]⟩, .int .i64 0] 53) = z := ⟨_, rfl⟩
  obtain ⟨b, gb⟩ : ∃ z, w.heap.size = z := ⟨_, rfl⟩
  rw [gw0] at HX0 HK0 HC0 ⊢
  rw [gb] at HX0 Hgb ⊢
  have Gb := Lib.hid gb
  clear gw0 gb
  go_wp2_with fail
  refine (HF1L.out _ HC0.out).mono ?_
  rintro e w2 ⟨rfl, hcu⟩
  have HX2 := Lib.hid (hcu.2.whole HX0.out (fun e => by have h1 : b = g := e; have := Hgb.out; omega))
  have HK2 := Lib.hid (HK0.out.trans hcu.2)
  have HC2 := Lib.hid hcu.1
  clear hcu HX0 HK0 HC0 HF1L
  rename_i hK
  refine hK _ _ ?_
  refine wl_read (v := .agg (opCells (kO kI (0, 0))).toArray) (some 13) rfl (by rfl) ?_ ?_
  · go_simp; rfl
  simp only [Act.put, stA_, st0_, st1_]
  refine wl_new 3 rfl rfl rfl 53 (.tmp 13) rfl rfl #[.int .i64 0, .int .i64 0, .int .i64 0, .int .i64 0, .int .i64 0, .int .i64 0, .int .i64 0, .int .i64 0, .int .i64 0, .int .i64 0, .int .i64 0, .int .i64 0, .int .i64 0, .int .i64 0, .int .i64 0, .int .i64 0, .int .i64 0, .bool false, .string ⟨#[]⟩, .int .i64 0] ?_ (opCells (kO kI (0, 0))).toArray (by simp) rfl (by kernel_rfl) rfl (opCells_arr _) ?_
  · go_simp; (try with_reducible rfl)
  simp only [Act.put, stA_, st0_, st1_]
  have HY3 : RowKit.Hid (Whole (w2.alloc (.cells (opCells (kO kI (0, 0))).toArray 53)) w2.heap.size 53 (opCells (kO kI (0, 0)))) := Lib.hid (Whole.new_ _ _ _)
  have Hgb5 : RowKit.Hid (g < w2.heap.size ∧ b < w2.heap.size) := Lib.hid ⟨HC2.out.lt, HX2.out.lt⟩
  have HX3 := Lib.hid (HX2.out.al (.cells (opCells (kO kI (0, 0))).toArray 53))
  have HK3 := Lib.hid (HK2.out.alloc (.cells (opCells (kO kI (0, 0))).toArray 53))
  have HC3 := Lib.hid (HC2.out.al (.cells (opCells (kO kI (0, 0))).toArray 53))
  obtain ⟨w3, gw3⟩ : ∃ z, w2.alloc (.cells (opCells (kO kI (0, 0))).toArray 53) = z := ⟨_, rfl⟩
  obtain ⟨b5, gb5⟩ : ∃ z, w2.heap.size = z := ⟨_, rfl⟩
  rw [gw3] at HY3 HX3 HK3 HC3 ⊢
  rw [gb5] at HY3 Hgb5 ⊢
  clear gw3 gb5 HX2 HK2 HC2 hK
  have hb5 : RowKit.Hid (w.heap.size ≤ b5) := Lib.hid (by have := Gb.out; have := Hgb5.out.2; omega)
  go_wp2_with fail
  refine (HFI.out _ _ _ HC3.out).mono ?_
  rintro e w4 ⟨x1, x2, M, rfl, hcu, hok⟩
  have HX4 := Lib.hid (hcu.2.whole HX3.out (fun e => by have h1 : b = g := e; have := Hgb.out; omega))
  have HY4 := Lib.hid (hcu.2.whole HY3.out (fun e => by have h1 : b5 = g := e; have := Hgb5.out; omega))
  have HK4 := Lib.hid (HK3.out.trans hcu.2)
  have HC4 := Lib.hid hcu.1
  have HOk := Lib.hid hok
  clear hok
  clear hcu HX3 HY3 HK3 HC3
  rename_i hK
  refine hK _ _ ?_
  refine wl_read (v := ?_) (some 16) rfl (by rfl) ?_ ?_
  rotate_left
  · go_simp; (try with_reducible rfl)
  simp only [Act.put, stA_, st0_, st1_]
  refine wl_store rfl (by rfl) (store_mid_run 47 (.tmp 16) (.tmp 15) rfl b5 1 rfl [.int .i64 x1, .int .i64 x2] rfl (HY4.out.there_ 1 2 (by show 3 ≤ 20; decide)) (by kernel_rfl) (by simp [Value.oneCell'])) ?_
  have HY5 := Lib.hid (HY4.out.cells_ [.int .i64 x1, .int .i64 x2] 1 w4 _ (by show 3 ≤ 20; decide))
  have HX5 := Lib.hid (HX4.out.cells_far (show b ≠ b5 by have := Hgb5.out.2; omega) 1 [.int .i64 x1, .int .i64 x2])
  have HC5 := Lib.hid (HC4.out.cells Hgb5.out.1 1 [.int .i64 x1, .int .i64 x2])
  have HK5 := Lib.hid (kept_in HK4.out hb5.out (kept_setCells (S := fun i => i = b5) rfl 1 [.int .i64 x1, .int .i64 x2]))
  obtain ⟨w5, gw5⟩ : ∃ z, w4.setCells b5 1 [.int .i64 x1, .int .i64 x2] = z := ⟨_, rfl⟩
  rw [gw5] at HY5 HX5 HC5 HK5 ⊢
  clear gw5 HX4 HY4 HK4 HC4
  replace HY5 : RowKit.Hid (Whole w5 b5 53 (opCells (kO kI (x1, x2)))) := HY5
  clear hK
  have HAt := Lib.hid (okO_at (fun q => (HOk.out q).2) bad)
  have HVal := Lib.hid (fun (R : List Nat) (o : OpT) ho q => okO_val (R := R) (o := o) HOk.out ho q)
  obtain ⟨B2, gB2⟩ : ∃ z, ((bad || !decide (1 ≤ L.length)) || !idT (L.drop 1)) = z := ⟨_, rfl⟩
  rw [gB2] at HC5 HAt
  clear gB2
  have l0 : w5.cell? ⟨b5, 0, none⟩ = some (.int .i64 kI) := HY5.out.cell (i := 0) rfl
  go_wp2_with fail
  refine (HFC.out _ _ _ HC5.out).mono ?_
  rintro e w6 ⟨ca, Ra, rfl, hcu, hok⟩
  have HX6 := Lib.hid (hcu.2.whole HX5.out (fun e => by have h1 : b = g := e; have := Hgb.out; omega))
  have HY6 := Lib.hid (hcu.2.whole HY5.out (fun e => by have h1 : b5 = g := e; have := Hgb5.out; omega))
  have HK6 := Lib.hid (HK5.out.trans hcu.2)
  have HC6 := Lib.hid hcu.1
  have HOa := Lib.hid hok
  clear hok
  clear hcu HX5 HY5 HK5 HC5
  rename_i hK
  refine hK _ _ ?_
  refine wl_read (v := ?_) (some 23) rfl (by rfl) ?_ ?_
  rotate_left
  · go_simp; (try with_reducible rfl)
  simp only [Act.put, stA_, st0_, st1_]
  refine wl_store rfl (by rfl) (store_mid_run 51 (.tmp 23) (.tmp 22) rfl b5 7 rfl (cC ca) rfl (HY6.out.there_ 7 5 (by show 12 ≤ 20; decide)) (by kernel_rfl) (cC_one ca)) ?_
  have HY7 := Lib.hid (HY6.out.cells_ (cC ca) 7 w6 _ (by show 12 ≤ 20; decide))
  have HX7 := Lib.hid (HX6.out.cells_far (show b ≠ b5 by have := Hgb5.out.2; omega) 7 (cC ca))
  have HC7 := Lib.hid (HC6.out.cells Hgb5.out.1 7 (cC ca))
  have HK7 := Lib.hid (kept_in HK6.out hb5.out (kept_setCells (S := fun i => i = b5) rfl 7 (cC ca)))
  obtain ⟨w7, gw7⟩ : ∃ z, w6.setCells b5 7 (cC ca) = z := ⟨_, rfl⟩
  rw [gw7] at HY7 HX7 HC7 HK7 ⊢
  clear gw7 HX6 HY6 HK6 HC6
  clear hK l0
  go_wp2_with fail
  refine (HFC.out _ _ _ HC7.out).mono ?_
  rintro e w8 ⟨cb, Rb, rfl, hcu, hok⟩
  have HX8 := Lib.hid (hcu.2.whole HX7.out (fun e => by have h1 : b = g := e; have := Hgb.out; omega))
  have HY8 := Lib.hid (hcu.2.whole HY7.out (fun e => by have h1 : b5 = g := e; have := Hgb5.out; omega))
  have HK8 := Lib.hid (HK7.out.trans hcu.2)
  have HC8 := Lib.hid hcu.1
  have HOb := Lib.hid hok
  clear hok
  clear hcu HX7 HY7 HK7 HC7
  rename_i hK
  refine hK _ _ ?_
  refine wl_read (v := ?_) (some 26) rfl (by rfl) ?_ ?_
  rotate_left
  · go_simp; (try with_reducible rfl)
  simp only [Act.put, stA_, st0_, st1_]
  refine wl_store rfl (by rfl) (store_mid_run 51 (.tmp 26) (.tmp 25) rfl b5 12 rfl (cC cb) rfl (HY8.out.there_ 12 5 (by show 17 ≤ 20; decide)) (by kernel_rfl) (cC_one cb)) ?_
  have HY9 := Lib.hid (HY8.out.cells_ (cC cb) 12 w8 _ (by show 17 ≤ 20; decide))
  have HX9 := Lib.hid (HX8.out.cells_far (show b ≠ b5 by have := Hgb5.out.2; omega) 12 (cC cb))
  have HC9 := Lib.hid (HC8.out.cells Hgb5.out.1 12 (cC cb))
  have HK9 := Lib.hid (kept_in HK8.out hb5.out (kept_setCells (S := fun i => i = b5) rfl 12 (cC cb)))
  obtain ⟨w9, gw9⟩ : ∃ z, w8.setCells b5 12 (cC cb) = z := ⟨_, rfl⟩
  rw [gw9] at HY9 HX9 HC9 HK9 ⊢
  clear gw9 HX8 HY8 HK8 HC8
  clear hK
  have l0 : w9.cell? ⟨b5, 0, none⟩ = some (.int .i64 kI) := HY9.out.cell (i := 0) rfl
  go_upto_region 28 with fail
  have Hbd : RowKit.Hid ((bad || !okO L) = ((B2 || !okC M) || !okC Ra)) := Lib.hid (by rw [HAt.out]; exact by rw [Hk.out]; exact fd3_at (fun q => (HOa.out q).2) B2)
  have HV : RowKit.Hid (okO L = true → (⟨kI, x1, x2, 0, 0, 0, 0, ca.1, ca.2.1, ca.2.2.1, ca.2.2.2.1, ca.2.2.2.2, cb.1, cb.2.1, cb.2.2.1, cb.2.2.2.1, cb.2.2.2.2, false, ⟨#[]⟩, 0⟩ : OpT) = opV L ∧ Rb = opL L) := Lib.hid (HVal.out _ _ (fun q => by
    rw [Hk.out] at q ⊢
    obtain ⟨j1, j2⟩ := Bool.and_eq_true_iff.1 (show (okC M && okC (crL M)) = true from q)
    obtain ⟨j3, j4⟩ := HOa.out j1
    rw [j4] at HOb
    obtain ⟨j5, j6⟩ := HOb.out j2
    rw [show kI = 3 by have := GkI.out; have := Hk.out; omega, j3, j5, j6]
    exact ⟨rfl, rfl⟩))
  replace HY9 : RowKit.Hid (Whole w9 b5 53 (opCells (⟨kI, x1, x2, 0, 0, 0, 0, ca.1, ca.2.1, ca.2.2.1, ca.2.2.2.1, ca.2.2.2.2, cb.1, cb.2.1, cb.2.2.1, cb.2.2.2.1, cb.2.2.2.2, false, ⟨#[]⟩, 0⟩ : OpT))) := HY9
  obtain ⟨o9, go9⟩ : ∃ z, (⟨kI, x1, x2, 0, 0, 0, 0, ca.1, ca.2.1, ca.2.2.1, ca.2.2.2.1, ca.2.2.2.2, cb.1, cb.2.1, cb.2.2.1, cb.2.2.2.1, cb.2.2.2.2, false, ⟨#[]⟩, 0⟩ : OpT) = z := ⟨_, rfl⟩
  rw [go9] at HV HY9
  clear go9
  refine wp_region_lit ?_
  refine wl_load (some 120) rfl (by rfl) 53 (.tmp 3) rfl b5 rfl 53 (opCells o9) _ HY9.out Try.underlying53 rfl (by kernel_rfl) ?_
  simp only [Act.put, stA_, st0_, st1_]
  refine wpList_store_row rfl 53 (.tmp 2) (.tmp 120) rfl b (opCells o9).toArray rfl rfl 53 (opCells zeroO).toArray HX9.out (by kernel_rfl) rfl (opCells_arr _) ?_
  have HXz : RowKit.Hid (Whole (w9.setRow b (opCells o9).toArray) b 53 (opCells o9)) := Lib.hid (Whole.row HX9.out (opCells o9))
  have HCz := Lib.hid (HC9.out.row Hgb.out.1 (opCells o9).toArray)
  have HKz := Lib.hid (kept_in HK9.out (Nat.le_of_eq Gb.out) (kept_row (S := fun i => i = b) rfl (opCells o9).toArray))
  go_wp2
  exact ret_whole rfl b rfl HXz.out Try.underlying53 rfl (by kernel_rfl) rfl ⟨o9, Rb, rfl, ⟨by rw [Hbd.out]; exact HCz.out, HKz.out⟩, HV.out⟩
set_option maxRecDepth 100000 in
set_option maxHeartbeats 4000000 in
theorem rrop_6 (lo g : Nat) (L : List Nat) (bad : Bool) (w : World) (h : RrAt lo w g L bad) (hk : c1 L = 6) :
    Calls Try.prog 61 #[.pointer (some ⟨g, 0, none⟩)] w fun e w' => ∃ (o : OpT) (R : List Nat), e = .returned (.agg (opCells o).toArray) ∧ Rr1 lo w w' g R (bad || !okO L) ∧ (okO L = true → o = opV L ∧ R = opL L) := by
  have HF1 := Lib.hid (fun R bad W h => rone_any lo g R bad W h)
  have HFI := Lib.hid (fun R bad W h => rrid_any lo g R bad W h)
  have HFC := Lib.hid (fun R bad W h => rrcorner_any lo g R bad W h)
  have HX0 : RowKit.Hid (Whole (w.alloc (.cells #[.int .i64 0, .int .i64 0, .int .i64 0, .int .i64 0, .int .i64 0, .int .i64 0, .int .i64 0, .int .i64 0, .int .i64 0, .int .i64 0, .int .i64 0, .int .i64 0, .int .i64 0, .int .i64 0, .int .i64 0, .int .i64 0, .int .i64 0, .bool false, .string ⟨#[]⟩, .int .i64 0] 53)) w.heap.size 53 (opCells zeroO)) := Lib.hid (Whole.new_ _ _ (opCells zeroO))
  have HC0 := Lib.hid (h.al (.cells #[.int .i64 0, .int .i64 0, .int .i64 0, .int .i64 0, .int .i64 0, .int .i64 0, .int .i64 0, .int .i64 0, .int .i64 0, .int .i64 0, .int .i64 0, .int .i64 0, .int .i64 0, .int .i64 0, .int .i64 0, .int .i64 0, .int .i64 0, .bool false, .string ⟨#[]⟩, .int .i64 0] 53))
  have HK0 : RowKit.Hid (Kept (At1 g) w (w.alloc (.cells #[.int .i64 0, .int .i64 0, .int .i64 0, .int .i64 0, .int .i64 0, .int .i64 0, .int .i64 0, .int .i64 0, .int .i64 0, .int .i64 0, .int .i64 0, .int .i64 0, .int .i64 0, .int .i64 0, .int .i64 0, .int .i64 0, .int .i64 0, .bool false, .string ⟨#[]⟩, .int .i64 0] 53))) := Lib.hid (Kept.of_below (below1 w _))
  have Hgb : RowKit.Hid (g < w.heap.size ∧ lo ≤ g) := Lib.hid ⟨h.lt, h.ge⟩
  obtain ⟨kI, gkI⟩ : ∃ z : Int, (c1 L : Int) = z := ⟨_, rfl⟩
  have GkI := Lib.hid gkI
  have Hk := Lib.hid hk
  have q3 : (kI == 3) = false := by rw [← gkI, hk]; rfl
  have q5 : (kI == 5) = false := by rw [← gkI, hk]; rfl
  have q6 : (kI == 6) = true := by rw [← gkI, hk]; rfl
  have q7 : (kI == 7) = false := by rw [← gkI, hk]; rfl
  have q8 : (kI == 8) = false := by rw [← gkI, hk]; rfl
  have HF1L : RowKit.Hid (∀ W, RrAt lo W g L bad → Calls Try.prog 60 #[.pointer (some ⟨g, 0, none⟩)] W fun e w' => e = .returned (.int .i64 kI) ∧ Rr1 lo W w' g (L.drop 1) (bad || !decide (1 ≤ L.length))) := Lib.hid (fun W h => gkI ▸ rone_any lo g L bad W h)
  clear h gkI hk
  go_enter Try.func61, Try.ntmps61
  go_upto_region 1 with fail
  obtain ⟨w0, gw0⟩ : ∃ z, w.alloc (.cells #[.int .i64 0, .int .i64 0, .int .i64 0, .int .i64 0, .int .i64 0, .int .i64 0, .int .i64 0, .int .i64 0, .int .i64 0, .int .i64 0, .int .i64 0, .int .i64 0, .int .i64 0, .int .i64 0, .int .i64 0, .int .i64 0, .int .i64 0, .bool false, .string ⟨#[]⟩, .int .i64 0] 53) = z := ⟨_, rfl⟩
  obtain ⟨b, gb⟩ : ∃ z, w.heap.size = z := ⟨_, rfl⟩
  rw [gw0] at HX0 HK0 HC0 ⊢
  rw [gb] at HX0 Hgb ⊢
  have Gb := Lib.hid gb
  clear gw0 gb
  go_wp2_with fail
  refine (HF1L.out _ HC0.out).mono ?_
  rintro e w2 ⟨rfl, hcu⟩
  have HX2 := Lib.hid (hcu.2.whole HX0.out (fun e => by have h1 : b = g := e; have := Hgb.out; omega))
  have HK2 := Lib.hid (HK0.out.trans hcu.2)
  have HC2 := Lib.hid hcu.1
  clear hcu HX0 HK0 HC0 HF1L
  rename_i hK
  refine hK _ _ ?_
  refine wl_read (v := .agg (opCells (kO kI (0, 0))).toArray) (some 13) rfl (by rfl) ?_ ?_
  · go_simp; rfl
  simp only [Act.put, stA_, st0_, st1_]
  refine wl_new 3 rfl rfl rfl 53 (.tmp 13) rfl rfl #[.int .i64 0, .int .i64 0, .int .i64 0, .int .i64 0, .int .i64 0, .int .i64 0, .int .i64 0, .int .i64 0, .int .i64 0, .int .i64 0, .int .i64 0, .int .i64 0, .int .i64 0, .int .i64 0, .int .i64 0, .int .i64 0, .int .i64 0, .bool false, .string ⟨#[]⟩, .int .i64 0] ?_ (opCells (kO kI (0, 0))).toArray (by simp) rfl (by kernel_rfl) rfl (opCells_arr _) ?_
  · go_simp; (try with_reducible rfl)
  simp only [Act.put, stA_, st0_, st1_]
  have HY3 : RowKit.Hid (Whole (w2.alloc (.cells (opCells (kO kI (0, 0))).toArray 53)) w2.heap.size 53 (opCells (kO kI (0, 0)))) := Lib.hid (Whole.new_ _ _ _)
  have Hgb5 : RowKit.Hid (g < w2.heap.size ∧ b < w2.heap.size) := Lib.hid ⟨HC2.out.lt, HX2.out.lt⟩
  have HX3 := Lib.hid (HX2.out.al (.cells (opCells (kO kI (0, 0))).toArray 53))
  have HK3 := Lib.hid (HK2.out.alloc (.cells (opCells (kO kI (0, 0))).toArray 53))
  have HC3 := Lib.hid (HC2.out.al (.cells (opCells (kO kI (0, 0))).toArray 53))
  obtain ⟨w3, gw3⟩ : ∃ z, w2.alloc (.cells (opCells (kO kI (0, 0))).toArray 53) = z := ⟨_, rfl⟩
  obtain ⟨b5, gb5⟩ : ∃ z, w2.heap.size = z := ⟨_, rfl⟩
  rw [gw3] at HY3 HX3 HK3 HC3 ⊢
  rw [gb5] at HY3 Hgb5 ⊢
  clear gw3 gb5 HX2 HK2 HC2 hK
  have hb5 : RowKit.Hid (w.heap.size ≤ b5) := Lib.hid (by have := Gb.out; have := Hgb5.out.2; omega)
  go_wp2_with fail
  refine (HFI.out _ _ _ HC3.out).mono ?_
  rintro e w4 ⟨x1, x2, M, rfl, hcu, hok⟩
  have HX4 := Lib.hid (hcu.2.whole HX3.out (fun e => by have h1 : b = g := e; have := Hgb.out; omega))
  have HY4 := Lib.hid (hcu.2.whole HY3.out (fun e => by have h1 : b5 = g := e; have := Hgb5.out; omega))
  have HK4 := Lib.hid (HK3.out.trans hcu.2)
  have HC4 := Lib.hid hcu.1
  have HOk := Lib.hid hok
  clear hok
  clear hcu HX3 HY3 HK3 HC3
  rename_i hK
  refine hK _ _ ?_
  refine wl_read (v := ?_) (some 16) rfl (by rfl) ?_ ?_
  rotate_left
  · go_simp; (try with_reducible rfl)
  simp only [Act.put, stA_, st0_, st1_]
  refine wl_store rfl (by rfl) (store_mid_run 47 (.tmp 16) (.tmp 15) rfl b5 1 rfl [.int .i64 x1, .int .i64 x2] rfl (HY4.out.there_ 1 2 (by show 3 ≤ 20; decide)) (by kernel_rfl) (by simp [Value.oneCell'])) ?_
  have HY5 := Lib.hid (HY4.out.cells_ [.int .i64 x1, .int .i64 x2] 1 w4 _ (by show 3 ≤ 20; decide))
  have HX5 := Lib.hid (HX4.out.cells_far (show b ≠ b5 by have := Hgb5.out.2; omega) 1 [.int .i64 x1, .int .i64 x2])
  have HC5 := Lib.hid (HC4.out.cells Hgb5.out.1 1 [.int .i64 x1, .int .i64 x2])
  have HK5 := Lib.hid (kept_in HK4.out hb5.out (kept_setCells (S := fun i => i = b5) rfl 1 [.int .i64 x1, .int .i64 x2]))
  obtain ⟨w5, gw5⟩ : ∃ z, w4.setCells b5 1 [.int .i64 x1, .int .i64 x2] = z := ⟨_, rfl⟩
  rw [gw5] at HY5 HX5 HC5 HK5 ⊢
  clear gw5 HX4 HY4 HK4 HC4
  replace HY5 : RowKit.Hid (Whole w5 b5 53 (opCells (kO kI (x1, x2)))) := HY5
  clear hK
  have HAt := Lib.hid (okO_at (fun q => (HOk.out q).2) bad)
  have HVal := Lib.hid (fun (R : List Nat) (o : OpT) ho q => okO_val (R := R) (o := o) HOk.out ho q)
  obtain ⟨B2, gB2⟩ : ∃ z, ((bad || !decide (1 ≤ L.length)) || !idT (L.drop 1)) = z := ⟨_, rfl⟩
  rw [gB2] at HC5 HAt
  clear gB2
  have l0 : w5.cell? ⟨b5, 0, none⟩ = some (.int .i64 kI) := HY5.out.cell (i := 0) rfl
  go_wp2_with fail
  refine (HFI.out _ _ _ HC5.out).mono ?_
  rintro e w6 ⟨y1, y2, Ra, rfl, hcu, hok⟩
  have HX6 := Lib.hid (hcu.2.whole HX5.out (fun e => by have h1 : b = g := e; have := Hgb.out; omega))
  have HY6 := Lib.hid (hcu.2.whole HY5.out (fun e => by have h1 : b5 = g := e; have := Hgb5.out; omega))
  have HK6 := Lib.hid (HK5.out.trans hcu.2)
  have HC6 := Lib.hid hcu.1
  have HOa := Lib.hid hok
  clear hok
  clear hcu HX5 HY5 HK5 HC5
  rename_i hK
  refine hK _ _ ?_
  refine wl_read (v := ?_) (some 42) rfl (by rfl) ?_ ?_
  rotate_left
  · go_simp; (try with_reducible rfl)
  simp only [Act.put, stA_, st0_, st1_]
  refine wl_store rfl (by rfl) (store_mid_run 47 (.tmp 42) (.tmp 41) rfl b5 5 rfl [.int .i64 y1, .int .i64 y2] rfl (HY6.out.there_ 5 2 (by show 7 ≤ 20; decide)) (by kernel_rfl) (by simp [Value.oneCell'])) ?_
  have HY7 := Lib.hid (HY6.out.cells_ [.int .i64 y1, .int .i64 y2] 5 w6 _ (by show 7 ≤ 20; decide))
  have HX7 := Lib.hid (HX6.out.cells_far (show b ≠ b5 by have := Hgb5.out.2; omega) 5 [.int .i64 y1, .int .i64 y2])
  have HC7 := Lib.hid (HC6.out.cells Hgb5.out.1 5 [.int .i64 y1, .int .i64 y2])
  have HK7 := Lib.hid (kept_in HK6.out hb5.out (kept_setCells (S := fun i => i = b5) rfl 5 [.int .i64 y1, .int .i64 y2]))
  obtain ⟨w7, gw7⟩ : ∃ z, w6.setCells b5 5 [.int .i64 y1, .int .i64 y2] = z := ⟨_, rfl⟩
  rw [gw7] at HY7 HX7 HC7 HK7 ⊢
  clear gw7 HX6 HY6 HK6 HC6
  clear hK l0
  have l0 : w7.cell? ⟨b5, 0, none⟩ = some (.int .i64 kI) := HY7.out.cell (i := 0) rfl
  go_upto_region 28 with fail
  have Hbd : RowKit.Hid ((bad || !okO L) = (B2 || !idT M)) := Lib.hid (by rw [HAt.out]; exact by rw [Hk.out]; rfl)
  have HV : RowKit.Hid (okO L = true → (⟨kI, x1, x2, 0, 0, y1, y2, 0, 0, 0, 0, 0, 0, 0, 0, 0, 0, false, ⟨#[]⟩, 0⟩ : OpT) = opV L ∧ Ra = opL L) := Lib.hid (HVal.out _ _ (fun q => by
    rw [Hk.out] at q ⊢
    obtain ⟨j3, j4⟩ := HOa.out q
    have j5 : y1 = (vI M).1 := congrArg Prod.fst j3
    have j6 : y2 = (vI M).2 := congrArg Prod.snd j3
    rw [show kI = 6 by have := GkI.out; have := Hk.out; omega, j5, j6, j4]
    exact ⟨rfl, rfl⟩))
  replace HY7 : RowKit.Hid (Whole w7 b5 53 (opCells (⟨kI, x1, x2, 0, 0, y1, y2, 0, 0, 0, 0, 0, 0, 0, 0, 0, 0, false, ⟨#[]⟩, 0⟩ : OpT))) := HY7
  obtain ⟨o9, go9⟩ : ∃ z, (⟨kI, x1, x2, 0, 0, y1, y2, 0, 0, 0, 0, 0, 0, 0, 0, 0, 0, false, ⟨#[]⟩, 0⟩ : OpT) = z := ⟨_, rfl⟩
  rw [go9] at HV HY7
  clear go9
  refine wp_region_lit ?_
  refine wl_load (some 120) rfl (by rfl) 53 (.tmp 3) rfl b5 rfl 53 (opCells o9) _ HY7.out Try.underlying53 rfl (by kernel_rfl) ?_
  simp only [Act.put, stA_, st0_, st1_]
  refine wpList_store_row rfl 53 (.tmp 2) (.tmp 120) rfl b (opCells o9).toArray rfl rfl 53 (opCells zeroO).toArray HX7.out (by kernel_rfl) rfl (opCells_arr _) ?_
  have HXz : RowKit.Hid (Whole (w7.setRow b (opCells o9).toArray) b 53 (opCells o9)) := Lib.hid (Whole.row HX7.out (opCells o9))
  have HCz := Lib.hid (HC7.out.row Hgb.out.1 (opCells o9).toArray)
  have HKz := Lib.hid (kept_in HK7.out (Nat.le_of_eq Gb.out) (kept_row (S := fun i => i = b) rfl (opCells o9).toArray))
  go_wp2
  exact ret_whole rfl b rfl HXz.out Try.underlying53 rfl (by kernel_rfl) rfl ⟨o9, Ra, rfl, ⟨by rw [Hbd.out]; exact HCz.out, HKz.out⟩, HV.out⟩
set_option maxRecDepth 100000 in
set_option maxHeartbeats 4000000 in
theorem rrop_0 (lo g : Nat) (L : List Nat) (bad : Bool) (w : World) (h : RrAt lo w g L bad) (k3 : c1 L ≠ 3) (k5 : c1 L ≠ 5) (k6 : c1 L ≠ 6) (k7 : c1 L ≠ 7) (k8 : c1 L ≠ 8) :
    Calls Try.prog 61 #[.pointer (some ⟨g, 0, none⟩)] w fun e w' => ∃ (o : OpT) (R : List Nat), e = .returned (.agg (opCells o).toArray) ∧ Rr1 lo w w' g R (bad || !okO L) ∧ (okO L = true → o = opV L ∧ R = opL L) := by
  have HF1 := Lib.hid (fun R bad W h => rone_any lo g R bad W h)
  have HFI := Lib.hid (fun R bad W h => rrid_any lo g R bad W h)
  have HFC := Lib.hid (fun R bad W h => rrcorner_any lo g R bad W h)
  have HX0 : RowKit.Hid (Whole (w.alloc (.cells #[.int .i64 0, .int .i64 0, .int .i64 0, .int .i64 0, .int .i64 0, .int .i64 0, .int .i64 0, .int .i64 0, .int .i64 0, .int .i64 0, .int .i64 0, .int .i64 0, .int .i64 0, .int .i64 0, .int .i64 0, .int .i64 0, .int .i64 0, .bool false, .string ⟨#[]⟩, .int .i64 0] 53)) w.heap.size 53 (opCells zeroO)) := Lib.hid (Whole.new_ _ _ (opCells zeroO))
  have HC0 := Lib.hid (h.al (.cells #[.int .i64 0, .int .i64 0, .int .i64 0, .int .i64 0, .int .i64 0, .int .i64 0, .int .i64 0, .int .i64 0, .int .i64 0, .int .i64 0, .int .i64 0, .int .i64 0, .int .i64 0, .int .i64 0, .int .i64 0, .int .i64 0, .int .i64 0, .bool false, .string ⟨#[]⟩, .int .i64 0] 53))
  have HK0 : RowKit.Hid (Kept (At1 g) w (w.alloc (.cells #[.int .i64 0, .int .i64 0, .int .i64 0, .int .i64 0, .int .i64 0, .int .i64 0, .int .i64 0, .int .i64 0, .int .i64 0, .int .i64 0, .int .i64 0, .int .i64 0, .int .i64 0, .int .i64 0, .int .i64 0, .int .i64 0, .int .i64 0, .bool false, .string ⟨#[]⟩, .int .i64 0] 53))) := Lib.hid (Kept.of_below (below1 w _))
  have Hgb : RowKit.Hid (g < w.heap.size ∧ lo ≤ g) := Lib.hid ⟨h.lt, h.ge⟩
  obtain ⟨kI, gkI⟩ : ∃ z : Int, (c1 L : Int) = z := ⟨_, rfl⟩
  have GkI := Lib.hid gkI
  have Hk := Lib.hid (And.intro k3 (And.intro k5 (And.intro k6 (And.intro k7 k8))))
  have q3 : (kI == 3) = false := by rw [← gkI]; simp; omega
  have q5 : (kI == 5) = false := by rw [← gkI]; simp; omega
  have q6 : (kI == 6) = false := by rw [← gkI]; simp; omega
  have q7 : (kI == 7) = false := by rw [← gkI]; simp; omega
  have q8 : (kI == 8) = false := by rw [← gkI]; simp; omega
  have HF1L : RowKit.Hid (∀ W, RrAt lo W g L bad → Calls Try.prog 60 #[.pointer (some ⟨g, 0, none⟩)] W fun e w' => e = .returned (.int .i64 kI) ∧ Rr1 lo W w' g (L.drop 1) (bad || !decide (1 ≤ L.length))) := Lib.hid (fun W h => gkI ▸ rone_any lo g L bad W h)
  clear h gkI k3 k5 k6 k7 k8
  go_enter Try.func61, Try.ntmps61
  go_upto_region 1 with fail
  obtain ⟨w0, gw0⟩ : ∃ z, w.alloc (.cells #[.int .i64 0, .int .i64 0, .int .i64 0, .int .i64 0, .int .i64 0, .int .i64 0, .int .i64 0, .int .i64 0, .int .i64 0, .int .i64 0, .int .i64 0, .int .i64 0, .int .i64 0, .int .i64 0, .int .i64 0, .int .i64 0, .int .i64 0, .bool false, .string ⟨#[]⟩, .int .i64 0] 53) = z := ⟨_, rfl⟩
  obtain ⟨b, gb⟩ : ∃ z, w.heap.size = z := ⟨_, rfl⟩
  rw [gw0] at HX0 HK0 HC0 ⊢
  rw [gb] at HX0 Hgb ⊢
  have Gb := Lib.hid gb
  clear gw0 gb
  go_wp2_with fail
  refine (HF1L.out _ HC0.out).mono ?_
  rintro e w2 ⟨rfl, hcu⟩
  have HX2 := Lib.hid (hcu.2.whole HX0.out (fun e => by have h1 : b = g := e; have := Hgb.out; omega))
  have HK2 := Lib.hid (HK0.out.trans hcu.2)
  have HC2 := Lib.hid hcu.1
  clear hcu HX0 HK0 HC0 HF1L
  rename_i hK
  refine hK _ _ ?_
  refine wl_read (v := .agg (opCells (kO kI (0, 0))).toArray) (some 13) rfl (by rfl) ?_ ?_
  · go_simp; rfl
  simp only [Act.put, stA_, st0_, st1_]
  refine wl_new 3 rfl rfl rfl 53 (.tmp 13) rfl rfl #[.int .i64 0, .int .i64 0, .int .i64 0, .int .i64 0, .int .i64 0, .int .i64 0, .int .i64 0, .int .i64 0, .int .i64 0, .int .i64 0, .int .i64 0, .int .i64 0, .int .i64 0, .int .i64 0, .int .i64 0, .int .i64 0, .int .i64 0, .bool false, .string ⟨#[]⟩, .int .i64 0] ?_ (opCells (kO kI (0, 0))).toArray (by simp) rfl (by kernel_rfl) rfl (opCells_arr _) ?_
  · go_simp; (try with_reducible rfl)
  simp only [Act.put, stA_, st0_, st1_]
  have HY3 : RowKit.Hid (Whole (w2.alloc (.cells (opCells (kO kI (0, 0))).toArray 53)) w2.heap.size 53 (opCells (kO kI (0, 0)))) := Lib.hid (Whole.new_ _ _ _)
  have Hgb5 : RowKit.Hid (g < w2.heap.size ∧ b < w2.heap.size) := Lib.hid ⟨HC2.out.lt, HX2.out.lt⟩
  have HX3 := Lib.hid (HX2.out.al (.cells (opCells (kO kI (0, 0))).toArray 53))
  have HK3 := Lib.hid (HK2.out.alloc (.cells (opCells (kO kI (0, 0))).toArray 53))
  have HC3 := Lib.hid (HC2.out.al (.cells (opCells (kO kI (0, 0))).toArray 53))
  obtain ⟨w3, gw3⟩ : ∃ z, w2.alloc (.cells (opCells (kO kI (0, 0))).toArray 53) = z := ⟨_, rfl⟩
  obtain ⟨b5, gb5⟩ : ∃ z, w2.heap.size = z := ⟨_, rfl⟩
  rw [gw3] at HY3 HX3 HK3 HC3 ⊢
  rw [gb5] at HY3 Hgb5 ⊢
  clear gw3 gb5 HX2 HK2 HC2 hK
  have hb5 : RowKit.Hid (w.heap.size ≤ b5) := Lib.hid (by have := Gb.out; have := Hgb5.out.2; omega)
  go_wp2_with fail
  refine (HFI.out _ _ _ HC3.out).mono ?_
  rintro e w4 ⟨x1, x2, M, rfl, hcu, hok⟩
  have HX4 := Lib.hid (hcu.2.whole HX3.out (fun e => by have h1 : b = g := e; have := Hgb.out; omega))
  have HY4 := Lib.hid (hcu.2.whole HY3.out (fun e => by have h1 : b5 = g := e; have := Hgb5.out; omega))
  have HK4 := Lib.hid (HK3.out.trans hcu.2)
  have HC4 := Lib.hid hcu.1
  have HOk := Lib.hid hok
  clear hok
  clear hcu HX3 HY3 HK3 HC3
  rename_i hK
  refine hK _ _ ?_
  refine wl_read (v := ?_) (some 16) rfl (by rfl) ?_ ?_
  rotate_left
  · go_simp; (try with_reducible rfl)
  simp only [Act.put, stA_, st0_, st1_]
  refine wl_store rfl (by rfl) (store_mid_run 47 (.tmp 16) (.tmp 15) rfl b5 1 rfl [.int .i64 x1, .int .i64 x2] rfl (HY4.out.there_ 1 2 (by show 3 ≤ 20; decide)) (by kernel_rfl) (by simp [Value.oneCell'])) ?_
  have HY5 := Lib.hid (HY4.out.cells_ [.int .i64 x1, .int .i64 x2] 1 w4 _ (by show 3 ≤ 20; decide))
  have HX5 := Lib.hid (HX4.out.cells_far (show b ≠ b5 by have := Hgb5.out.2; omega) 1 [.int .i64 x1, .int .i64 x2])
  have HC5 := Lib.hid (HC4.out.cells Hgb5.out.1 1 [.int .i64 x1, .int .i64 x2])
  have HK5 := Lib.hid (kept_in HK4.out hb5.out (kept_setCells (S := fun i => i = b5) rfl 1 [.int .i64 x1, .int .i64 x2]))
  obtain ⟨w5, gw5⟩ : ∃ z, w4.setCells b5 1 [.int .i64 x1, .int .i64 x2] = z := ⟨_, rfl⟩
  rw [gw5] at HY5 HX5 HC5 HK5 ⊢
  clear gw5 HX4 HY4 HK4 HC4
  replace HY5 : RowKit.Hid (Whole w5 b5 53 (opCells (kO kI (x1, x2)))) := HY5
  clear hK
  have HAt := Lib.hid (okO_at (fun q => (HOk.out q).2) bad)
  have HVal := Lib.hid (fun (R : List Nat) (o : OpT) ho q => okO_val (R := R) (o := o) HOk.out ho q)
  obtain ⟨B2, gB2⟩ : ∃ z, ((bad || !decide (1 ≤ L.length)) || !idT (L.drop 1)) = z := ⟨_, rfl⟩
  rw [gB2] at HC5 HAt
  clear gB2
  have l0 : w5.cell? ⟨b5, 0, none⟩ = some (.int .i64 kI) := HY5.out.cell (i := 0) rfl
  go_upto_region 28 with fail
  have Hbd : RowKit.Hid ((bad || !okO L) = B2) := Lib.hid (by rw [HAt.out]; exact by obtain ⟨k3, k5, k6, k7, k8⟩ := Hk.out; unfold okFd; rw [if_neg k3, if_neg k5, if_neg k6, if_neg k7, if_neg k8]; simp)
  have HV : RowKit.Hid (okO L = true → (kO kI (x1, x2)) = opV L ∧ M = opL L) := Lib.hid (HVal.out _ _ (fun q => by
    obtain ⟨k3, k5, k6, k7, k8⟩ := Hk.out
    unfold fdV fdL
    rw [if_neg k3, if_neg k5, if_neg k6, if_neg k7, if_neg k8, if_neg k3, if_neg k5, if_neg k6, if_neg k7, if_neg k8, GkI.out]
    exact ⟨rfl, rfl⟩))
  replace HY5 : RowKit.Hid (Whole w5 b5 53 (opCells (kO kI (x1, x2)))) := HY5
  obtain ⟨o9, go9⟩ : ∃ z, (kO kI (x1, x2)) = z := ⟨_, rfl⟩
  rw [go9] at HV HY5
  clear go9
  refine wp_region_lit ?_
  refine wl_load (some 120) rfl (by rfl) 53 (.tmp 3) rfl b5 rfl 53 (opCells o9) _ HY5.out Try.underlying53 rfl (by kernel_rfl) ?_
  simp only [Act.put, stA_, st0_, st1_]
  refine wpList_store_row rfl 53 (.tmp 2) (.tmp 120) rfl b (opCells o9).toArray rfl rfl 53 (opCells zeroO).toArray HX5.out (by kernel_rfl) rfl (opCells_arr _) ?_
  have HXz : RowKit.Hid (Whole (w5.setRow b (opCells o9).toArray) b 53 (opCells o9)) := Lib.hid (Whole.row HX5.out (opCells o9))
  have HCz := Lib.hid (HC5.out.row Hgb.out.1 (opCells o9).toArray)
  have HKz := Lib.hid (kept_in HK5.out (Nat.le_of_eq Gb.out) (kept_row (S := fun i => i = b) rfl (opCells o9).toArray))
  go_wp2
  exact ret_whole rfl b rfl HXz.out Try.underlying53 rfl (by kernel_rfl) rfl ⟨o9, M, rfl, ⟨by rw [Hbd.out]; exact HCz.out, HKz.out⟩, HV.out⟩
set_option maxRecDepth 100000 in
set_option maxHeartbeats 4000000 in
theorem rrop_5 (lo g : Nat) (L : List Nat) (bad : Bool) (w : World) (h : RrAt lo w g L bad) (hk : c1 L = 5) :
    Calls Try.prog 61 #[.pointer (some ⟨g, 0, none⟩)] w fun e w' => ∃ (o : OpT) (R : List Nat), e = .returned (.agg (opCells o).toArray) ∧ Rr1 lo w w' g R (bad || !okO L) ∧ (okO L = true → o = opV L ∧ R = opL L) := by
  have HF1 := Lib.hid (fun R bad W h => rone_any lo g R bad W h)
  have HFI := Lib.hid (fun R bad W h => rrid_any lo g R bad W h)
  have HFC := Lib.hid (fun R bad W h => rrcorner_any lo g R bad W h)
  have HX0 : RowKit.Hid (Whole (w.alloc (.cells #[.int .i64 0, .int .i64 0, .int .i64 0, .int .i64 0, .int .i64 0, .int .i64 0, .int .i64 0, .int .i64 0, .int .i64 0, .int .i64 0, .int .i64 0, .int .i64 0, .int .i64 0, .int .i64 0, .int .i64 0, .int .i64 0, .int .i64 0, .bool false, .string ⟨#[]⟩, .int .i64 0] 53)) w.heap.size 53 (opCells zeroO)) := Lib.hid (Whole.new_ _ _ (opCells zeroO))
  have HC0 := Lib.hid (h.al (.cells #[.int .i64 0, .int .i64 0, .int .i64 0, .int .i64 0, .int .i64 0, .int .i64 0, .int .i64 0, .int .i64 0, .int .i64 0, .int .i64 0, .int .i64 0, .int .i64 0, .int .i64 0, .int .i64 0, .int .i64 0, .int .i64 0, .int .i64 0, .bool false, .string ⟨#[]⟩, .int .i64 0] 53))
  have HK0 : RowKit.Hid (Kept (At1 g) w (w.alloc (.cells #[.int .i64 0, .int .i64 0, .int .i64 0, .int .i64 0, .int .i64 0, .int .i64 0, .int .i64 0, .int .i64 0, .int .i64 0, .int .i64 0, .int .i64 0, .int .i64 0, .int .i64 0, .int .i64 0, .int .i64 0, .int .i64 0, .int .i64 0, .bool false, .string ⟨#[]⟩, .int .i64 0] 53))) := Lib.hid (Kept.of_below (below1 w _))
  have Hgb : RowKit.Hid (g < w.heap.size ∧ lo ≤ g) := Lib.hid ⟨h.lt, h.ge⟩
  obtain ⟨kI, gkI⟩ : ∃ z : Int, (c1 L : Int) = z := ⟨_, rfl⟩
  have GkI := Lib.hid gkI
  have Hk := Lib.hid hk
  have q3 : (kI == 3) = false := by rw [← gkI, hk]; rfl
  have q5 : (kI == 5) = true := by rw [← gkI, hk]; rfl
  have q6 : (kI == 6) = false := by rw [← gkI, hk]; rfl
  have q7 : (kI == 7) = false := by rw [← gkI, hk]; rfl
  have q8 : (kI == 8) = false := by rw [← gkI, hk]; rfl
  have HF1L : RowKit.Hid (∀ W, RrAt lo W g L bad → Calls Try.prog 60 #[.pointer (some ⟨g, 0, none⟩)] W fun e w' => e = .returned (.int .i64 kI) ∧ Rr1 lo W w' g (L.drop 1) (bad || !decide (1 ≤ L.length))) := Lib.hid (fun W h => gkI ▸ rone_any lo g L bad W h)
  clear h gkI hk
  go_enter Try.func61, Try.ntmps61
  go_upto_region 1 with fail
  obtain ⟨w0, gw0⟩ : ∃ z, w.alloc (.cells #[.int .i64 0, .int .i64 0, .int .i64 0, .int .i64 0, .int .i64 0, .int .i64 0, .int .i64 0, .int .i64 0, .int .i64 0, .int .i64 0, .int .i64 0, .int .i64 0, .int .i64 0, .int .i64 0, .int .i64 0, .int .i64 0, .int .i64 0, .bool false, .string ⟨#[]⟩, .int .i64 0] 53) = z := ⟨_, rfl⟩
  obtain ⟨b, gb⟩ : ∃ z, w.heap.size = z := ⟨_, rfl⟩
  rw [gw0] at HX0 HK0 HC0 ⊢
  rw [gb] at HX0 Hgb ⊢
  have Gb := Lib.hid gb
  clear gw0 gb
  go_wp2_with fail
  refine (HF1L.out _ HC0.out).mono ?_
  rintro e w2 ⟨rfl, hcu⟩
  have HX2 := Lib.hid (hcu.2.whole HX0.out (fun e => by have h1 : b = g := e; have := Hgb.out; omega))
  have HK2 := Lib.hid (HK0.out.trans hcu.2)
  have HC2 := Lib.hid hcu.1
  clear hcu HX0 HK0 HC0 HF1L
  rename_i hK
  refine hK _ _ ?_
  refine wl_read (v := .agg (opCells (kO kI (0, 0))).toArray) (some 13) rfl (by rfl) ?_ ?_
  · go_simp; rfl
  simp only [Act.put, stA_, st0_, st1_]
  refine wl_new 3 rfl rfl rfl 53 (.tmp 13) rfl rfl #[.int .i64 0, .int .i64 0, .int .i64 0, .int .i64 0, .int .i64 0, .int .i64 0, .int .i64 0, .int .i64 0, .int .i64 0, .int .i64 0, .int .i64 0, .int .i64 0, .int .i64 0, .int .i64 0, .int .i64 0, .int .i64 0, .int .i64 0, .bool false, .string ⟨#[]⟩, .int .i64 0] ?_ (opCells (kO kI (0, 0))).toArray (by simp) rfl (by kernel_rfl) rfl (opCells_arr _) ?_
  · go_simp; (try with_reducible rfl)
  simp only [Act.put, stA_, st0_, st1_]
  have HY3 : RowKit.Hid (Whole (w2.alloc (.cells (opCells (kO kI (0, 0))).toArray 53)) w2.heap.size 53 (opCells (kO kI (0, 0)))) := Lib.hid (Whole.new_ _ _ _)
  have Hgb5 : RowKit.Hid (g < w2.heap.size ∧ b < w2.heap.size) := Lib.hid ⟨HC2.out.lt, HX2.out.lt⟩
  have HX3 := Lib.hid (HX2.out.al (.cells (opCells (kO kI (0, 0))).toArray 53))
  have HK3 := Lib.hid (HK2.out.alloc (.cells (opCells (kO kI (0, 0))).toArray 53))
  have HC3 := Lib.hid (HC2.out.al (.cells (opCells (kO kI (0, 0))).toArray 53))
  obtain ⟨w3, gw3⟩ : ∃ z, w2.alloc (.cells (opCells (kO kI (0, 0))).toArray 53) = z := ⟨_, rfl⟩
  obtain ⟨b5, gb5⟩ : ∃ z, w2.heap.size = z := ⟨_, rfl⟩
  rw [gw3] at HY3 HX3 HK3 HC3 ⊢
  rw [gb5] at HY3 Hgb5 ⊢
  clear gw3 gb5 HX2 HK2 HC2 hK
  have hb5 : RowKit.Hid (w.heap.size ≤ b5) := Lib.hid (by have := Gb.out; have := Hgb5.out.2; omega)
  go_wp2_with fail
  refine (HFI.out _ _ _ HC3.out).mono ?_
  rintro e w4 ⟨x1, x2, M, rfl, hcu, hok⟩
  have HX4 := Lib.hid (hcu.2.whole HX3.out (fun e => by have h1 : b = g := e; have := Hgb.out; omega))
  have HY4 := Lib.hid (hcu.2.whole HY3.out (fun e => by have h1 : b5 = g := e; have := Hgb5.out; omega))
  have HK4 := Lib.hid (HK3.out.trans hcu.2)
  have HC4 := Lib.hid hcu.1
  have HOk := Lib.hid hok
  clear hok
  clear hcu HX3 HY3 HK3 HC3
  rename_i hK
  refine hK _ _ ?_
  refine wl_read (v := ?_) (some 16) rfl (by rfl) ?_ ?_
  rotate_left
  · go_simp; (try with_reducible rfl)
  simp only [Act.put, stA_, st0_, st1_]
  refine wl_store rfl (by rfl) (store_mid_run 47 (.tmp 16) (.tmp 15) rfl b5 1 rfl [.int .i64 x1, .int .i64 x2] rfl (HY4.out.there_ 1 2 (by show 3 ≤ 20; decide)) (by kernel_rfl) (by simp [Value.oneCell'])) ?_
  have HY5 := Lib.hid (HY4.out.cells_ [.int .i64 x1, .int .i64 x2] 1 w4 _ (by show 3 ≤ 20; decide))
  have HX5 := Lib.hid (HX4.out.cells_far (show b ≠ b5 by have := Hgb5.out.2; omega) 1 [.int .i64 x1, .int .i64 x2])
  have HC5 := Lib.hid (HC4.out.cells Hgb5.out.1 1 [.int .i64 x1, .int .i64 x2])
  have HK5 := Lib.hid (kept_in HK4.out hb5.out (kept_setCells (S := fun i => i = b5) rfl 1 [.int .i64 x1, .int .i64 x2]))
  obtain ⟨w5, gw5⟩ : ∃ z, w4.setCells b5 1 [.int .i64 x1, .int .i64 x2] = z := ⟨_, rfl⟩
  rw [gw5] at HY5 HX5 HC5 HK5 ⊢
  clear gw5 HX4 HY4 HK4 HC4
  replace HY5 : RowKit.Hid (Whole w5 b5 53 (opCells (kO kI (x1, x2)))) := HY5
  clear hK
  have HAt := Lib.hid (okO_at (fun q => (HOk.out q).2) bad)
  have HVal := Lib.hid (fun (R : List Nat) (o : OpT) ho q => okO_val (R := R) (o := o) HOk.out ho q)
  obtain ⟨B2, gB2⟩ : ∃ z, ((bad || !decide (1 ≤ L.length)) || !idT (L.drop 1)) = z := ⟨_, rfl⟩
  rw [gB2] at HC5 HAt
  clear gB2
  have l0 : w5.cell? ⟨b5, 0, none⟩ = some (.int .i64 kI) := HY5.out.cell (i := 0) rfl
  go_wp2_with fail
  refine (HFI.out _ _ _ HC5.out).mono ?_
  rintro e w6 ⟨y1, y2, Ra, rfl, hcu, hok⟩
  have HX6 := Lib.hid (hcu.2.whole HX5.out (fun e => by have h1 : b = g := e; have := Hgb.out; omega))
  have HY6 := Lib.hid (hcu.2.whole HY5.out (fun e => by have h1 : b5 = g := e; have := Hgb5.out; omega))
  have HK6 := Lib.hid (HK5.out.trans hcu.2)
  have HC6 := Lib.hid hcu.1
  have HOa := Lib.hid hok
  clear hok
  clear hcu HX5 HY5 HK5 HC5
  rename_i hK
  refine hK _ _ ?_
  refine wl_read (v := ?_) (some 31) rfl (by rfl) ?_ ?_
  rotate_left
  · go_simp; (try with_reducible rfl)
  simp only [Act.put, stA_, st0_, st1_]
  refine wl_store rfl (by rfl) (store_mid_run 47 (.tmp 31) (.tmp 30) rfl b5 3 rfl [.int .i64 y1, .int .i64 y2] rfl (HY6.out.there_ 3 2 (by show 5 ≤ 20; decide)) (by kernel_rfl) (by simp [Value.oneCell'])) ?_
  have HY7 := Lib.hid (HY6.out.cells_ [.int .i64 y1, .int .i64 y2] 3 w6 _ (by show 5 ≤ 20; decide))
  have HX7 := Lib.hid (HX6.out.cells_far (show b ≠ b5 by have := Hgb5.out.2; omega) 3 [.int .i64 y1, .int .i64 y2])
  have HC7 := Lib.hid (HC6.out.cells Hgb5.out.1 3 [.int .i64 y1, .int .i64 y2])
  have HK7 := Lib.hid (kept_in HK6.out hb5.out (kept_setCells (S := fun i => i = b5) rfl 3 [.int .i64 y1, .int .i64 y2]))
  obtain ⟨w7, gw7⟩ : ∃ z, w6.setCells b5 3 [.int .i64 y1, .int .i64 y2] = z := ⟨_, rfl⟩
  rw [gw7] at HY7 HX7 HC7 HK7 ⊢
  clear gw7 HX6 HY6 HK6 HC6
  clear hK l0
  go_wp2_with fail
  refine (HFI.out _ _ _ HC7.out).mono ?_
  rintro e w8 ⟨z1, z2, Rb, rfl, hcu, hok⟩
  have HX8 := Lib.hid (hcu.2.whole HX7.out (fun e => by have h1 : b = g := e; have := Hgb.out; omega))
  have HY8 := Lib.hid (hcu.2.whole HY7.out (fun e => by have h1 : b5 = g := e; have := Hgb5.out; omega))
  have HK8 := Lib.hid (HK7.out.trans hcu.2)
  have HC8 := Lib.hid hcu.1
  have HOb := Lib.hid hok
  clear hok
  clear hcu HX7 HY7 HK7 HC7
  rename_i hK
  refine hK _ _ ?_
  refine wl_read (v := ?_) (some 34) rfl (by rfl) ?_ ?_
  rotate_left
  · go_simp; (try with_reducible rfl)
  simp only [Act.put, stA_, st0_, st1_]
  refine wl_store rfl (by rfl) (store_mid_run 47 (.tmp 34) (.tmp 33) rfl b5 5 rfl [.int .i64 z1, .int .i64 z2] rfl (HY8.out.there_ 5 2 (by show 7 ≤ 20; decide)) (by kernel_rfl) (by simp [Value.oneCell'])) ?_
  have HY9 := Lib.hid (HY8.out.cells_ [.int .i64 z1, .int .i64 z2] 5 w8 _ (by show 7 ≤ 20; decide))
  have HX9 := Lib.hid (HX8.out.cells_far (show b ≠ b5 by have := Hgb5.out.2; omega) 5 [.int .i64 z1, .int .i64 z2])
  have HC9 := Lib.hid (HC8.out.cells Hgb5.out.1 5 [.int .i64 z1, .int .i64 z2])
  have HK9 := Lib.hid (kept_in HK8.out hb5.out (kept_setCells (S := fun i => i = b5) rfl 5 [.int .i64 z1, .int .i64 z2]))
  obtain ⟨w9, gw9⟩ : ∃ z, w8.setCells b5 5 [.int .i64 z1, .int .i64 z2] = z := ⟨_, rfl⟩
  rw [gw9] at HY9 HX9 HC9 HK9 ⊢
  clear gw9 HX8 HY8 HK8 HC8
  clear hK
  go_wp2_with fail
  refine (HF1.out _ _ _ HC9.out).mono ?_
  rintro e w10 ⟨rfl, hcu⟩
  have HX10 := Lib.hid (hcu.2.whole HX9.out (fun e => by have h1 : b = g := e; have := Hgb.out; omega))
  have HY10 := Lib.hid (hcu.2.whole HY9.out (fun e => by have h1 : b5 = g := e; have := Hgb5.out; omega))
  have HK10 := Lib.hid (HK9.out.trans hcu.2)
  have HC10 := Lib.hid hcu.1
  clear hcu HX9 HY9 HK9 HC9
  obtain ⟨nI, gnI⟩ : ∃ z : Int, (c1 Rb : Int) = z := ⟨_, rfl⟩
  rw [gnI]
  have GnI := Lib.hid gnI
  clear gnI
  have m1 := HY10.out.cell (i := 19) (v := .int .i64 0) rfl
  have e1 := HY10.out.free 19
  go_upto_region 18 with fail
  clear m1 e1
  have HY11 := Lib.hid (HY10.out.set_ 19 (.int .i64 nI))
  have HX11 := Lib.hid (HX10.out.far (p := ⟨b5, 19, none⟩) (show b ≠ b5 by have := Hgb5.out.2; omega) (.int .i64 nI))
  have HC11 := Lib.hid (HC10.out.poke (i := 19) Hgb5.out.1 (.int .i64 nI))
  have HK11 := Lib.hid (kept_poke (i := 19) HK10.out hb5.out (.int .i64 nI))
  obtain ⟨w11, gw11⟩ : ∃ z, w10.setCell ⟨b5, 19, none⟩ (.int .i64 nI) = z := ⟨_, rfl⟩
  rw [gw11] at HY11 HX11 HC11 HK11 ⊢
  clear gw11 HX10 HY10 HK10 HC10
  have l0 : w11.cell? ⟨b5, 0, none⟩ = some (.int .i64 kI) := HY11.out.cell (i := 0) rfl
  go_upto_region 28 with fail
  have Hbd : RowKit.Hid ((bad || !okO L) = (((B2 || !idT M) || !idT Ra) || !decide (1 ≤ Rb.length))) := Lib.hid (by rw [HAt.out]; exact by rw [Hk.out]; exact fd5_at (fun q => (HOa.out q).2) (fun q => (HOb.out q).2) B2)
  have HV : RowKit.Hid (okO L = true → (⟨kI, x1, x2, y1, y2, z1, z2, 0, 0, 0, 0, 0, 0, 0, 0, 0, 0, false, ⟨#[]⟩, nI⟩ : OpT) = opV L ∧ Rb.drop 1 = opL L) := Lib.hid (HVal.out _ _ (fun q => by
    rw [Hk.out] at q ⊢
    have q2 := q
    simp only [show okFd 5 M = (idT M && (idT (M.drop 4) && decide (1 ≤ ((M.drop 4).drop 4).length))) from rfl, Bool.and_eq_true] at q2
    obtain ⟨j1, j2, -⟩ := q2
    obtain ⟨j3, j4⟩ := HOa.out j1
    rw [← (idT_vI j1).2] at j2
    rw [j4] at HOb
    obtain ⟨j5, j6⟩ := HOb.out j2
    have j7 : y1 = (vI M).1 := congrArg Prod.fst j3
    have j8 : y2 = (vI M).2 := congrArg Prod.snd j3
    have j9 : z1 = (vI (lI M)).1 := congrArg Prod.fst j5
    have j10 : z2 = (vI (lI M)).2 := congrArg Prod.snd j5
    rw [show kI = 5 by have := GkI.out; have := Hk.out; omega, j7, j8, j9, j10, ← GnI.out, j6]
    exact ⟨rfl, rfl⟩))
  replace HY11 : RowKit.Hid (Whole w11 b5 53 (opCells (⟨kI, x1, x2, y1, y2, z1, z2, 0, 0, 0, 0, 0, 0, 0, 0, 0, 0, false, ⟨#[]⟩, nI⟩ : OpT))) := HY11
  obtain ⟨o9, go9⟩ : ∃ z, (⟨kI, x1, x2, y1, y2, z1, z2, 0, 0, 0, 0, 0, 0, 0, 0, 0, 0, false, ⟨#[]⟩, nI⟩ : OpT) = z := ⟨_, rfl⟩
  rw [go9] at HV HY11
  clear go9
  refine wp_region_lit ?_
  refine wl_load (some 120) rfl (by rfl) 53 (.tmp 3) rfl b5 rfl 53 (opCells o9) _ HY11.out Try.underlying53 rfl (by kernel_rfl) ?_
  simp only [Act.put, stA_, st0_, st1_]
  refine wpList_store_row rfl 53 (.tmp 2) (.tmp 120) rfl b (opCells o9).toArray rfl rfl 53 (opCells zeroO).toArray HX11.out (by kernel_rfl) rfl (opCells_arr _) ?_
  have HXz : RowKit.Hid (Whole (w11.setRow b (opCells o9).toArray) b 53 (opCells o9)) := Lib.hid (Whole.row HX11.out (opCells o9))
  have HCz := Lib.hid (HC11.out.row Hgb.out.1 (opCells o9).toArray)
  have HKz := Lib.hid (kept_in HK11.out (Nat.le_of_eq Gb.out) (kept_row (S := fun i => i = b) rfl (opCells o9).toArray))
  go_wp2
  exact ret_whole rfl b rfl HXz.out Try.underlying53 rfl (by kernel_rfl) rfl ⟨o9, Rb.drop 1, rfl, ⟨by rw [Hbd.out]; exact HCz.out, HKz.out⟩, HV.out⟩
end Go.Proofs.Ytinfbaflkjghhaa
/- The document's reader: op of kind 7. -/
namespace Go.Proofs.Ytinfbaflkjghhaa
open Go.RowKit
set_option maxRecDepth 100000 in
set_option maxHeartbeats 4000000 in
theorem rrop_7 (lo g : Nat) (L : List Nat) (bad : Bool) (w : World) (h : RrAt lo w g L bad) (hk : c1 L = 7) :
    Calls Try.prog 61 #[.pointer (some ⟨g, 0, none⟩)] w fun e w' => ∃ (o : OpT) (R : List Nat), e = .returned (.agg (opCells o).toArray) ∧ Rr1 lo w w' g R (bad || !okO L) ∧ (okO L = true → o = opV L ∧ R = opL L) := by
  have HF1 := Lib.hid (fun R bad W h => rone_any lo g R bad W h)
  have HFI := Lib.hid (fun R bad W h => rrid_any lo g R bad W h)
  have HFC := Lib.hid (fun R bad W h => rrcorner_any lo g R bad W h)
  have HX0 : RowKit.Hid (Whole (w.alloc (.cells #[.int .i64 0, .int .i64 0, .int .i64 0, .int .i64 0, .int .i64 0, .int .i64 0, .int .i64 0, .int .i64 0, .int .i64 0, .int .i64 0, .int .i64 0, .int .i64 0, .int .i64 0, .int .i64 0, .int .i64 0, .int .i64 0, .int .i64 0, .bool false, .string ⟨#[]⟩, .int .i64 0] 53)) w.heap.size 53 (opCells zeroO)) := Lib.hid (Whole.new_ _ _ (opCells zeroO))
  have HC0 := Lib.hid (h.al (.cells #[.int .i64 0, .int .i64 0, .int .i64 0, .int .i64 0, .int .i64 0, .int .i64 0, .int .i64 0, .int .i64 0, .int .i64 0, .int .i64 0, .int .i64 0, .int .i64 0, .int .i64 0, .int .i64 0, .int .i64 0, .int .i64 0, .int .i64 0, .bool false, .string ⟨#[]⟩, .int .i64 0] 53))
  have HK0 : RowKit.Hid (Kept (At1 g) w (w.alloc (.cells #[.int .i64 0, .int .i64 0, .int .i64 0, .int .i64 0, .int .i64 0, .int .i64 0, .int .i64 0, .int .i64 0, .int .i64 0, .int .i64 0, .int .i64 0, .int .i64 0, .int .i64 0, .int .i64 0, .int .i64 0, .int .i64 0, .int .i64 0, .bool false, .string ⟨#[]⟩, .int .i64 0] 53))) := Lib.hid (Kept.of_below (below1 w _))
  have Hgb : RowKit.Hid (g < w.heap.size ∧ lo ≤ g) := Lib.hid ⟨h.lt, h.ge⟩
  obtain ⟨kI, gkI⟩ : ∃ z : Int, (c1 L : Int) = z := ⟨_, rfl⟩
  have GkI := Lib.hid gkI
  have Hk := Lib.hid hk
  have q3 : (kI == 3) = false := by rw [← gkI, hk]; rfl
  have q5 : (kI == 5) = false := by rw [← gkI, hk]; rfl
  have q6 : (kI == 6) = false := by rw [← gkI, hk]; rfl
  have q7 : (kI == 7) = true := by rw [← gkI, hk]; rfl
  have q8 : (kI == 8) = false := by rw [← gkI, hk]; rfl
  have HF1L : RowKit.Hid (∀ W, RrAt lo W g L bad → Calls Try.prog 60 #[.pointer (some ⟨g, 0, none⟩)] W fun e w' => e = .returned (.int .i64 kI) ∧ Rr1 lo W w' g (L.drop 1) (bad || !decide (1 ≤ L.length))) := Lib.hid (fun W h => gkI ▸ rone_any lo g L bad W h)
  clear h gkI hk
  go_enter Try.func61, Try.ntmps61
  go_upto_region 1 with fail
  obtain ⟨w0, gw0⟩ : ∃ z, w.alloc (.cells #[.int .i64 0, .int .i64 0, .int .i64 0, .int .i64 0, .int .i64 0, .int .i64 0, .int .i64 0, .int .i64 0, .int .i64 0, .int .i64 0, .int .i64 0, .int .i64 0, .int .i64 0, .int .i64 0, .int .i64 0, .int .i64 0, .int .i64 0, .bool false, .string ⟨#[]⟩, .int .i64 0] 53) = z := ⟨_, rfl⟩
  obtain ⟨b, gb⟩ : ∃ z, w.heap.size = z := ⟨_, rfl⟩
  rw [gw0] at HX0 HK0 HC0 ⊢
  rw [gb] at HX0 Hgb ⊢
  have Gb := Lib.hid gb
  clear gw0 gb
  go_wp2_with fail
  refine (HF1L.out _ HC0.out).mono ?_
  rintro e w2 ⟨rfl, hcu⟩
  have HX2 := Lib.hid (hcu.2.whole HX0.out (fun e => by have h1 : b = g := e; have := Hgb.out; omega))
  have HK2 := Lib.hid (HK0.out.trans hcu.2)
  have HC2 := Lib.hid hcu.1
  clear hcu HX0 HK0 HC0 HF1L
  rename_i hK
  refine hK _ _ ?_
  refine wl_read (v := .agg (opCells (kO kI (0, 0))).toArray) (some 13) rfl (by rfl) ?_ ?_
  · go_simp; rfl
  simp only [Act.put, stA_, st0_, st1_]
  refine wl_new 3 rfl rfl rfl 53 (.tmp 13) rfl rfl #[.int .i64 0, .int .i64 0, .int .i64 0, .int .i64 0, .int .i64 0, .int .i64 0, .int .i64 0, .int .i64 0, .int .i64 0, .int .i64 0, .int .i64 0, .int .i64 0, .int .i64 0, .int .i64 0, .int .i64 0, .int .i64 0, .int .i64 0, .bool false, .string ⟨#[]⟩, .int .i64 0] ?_ (opCells (kO kI (0, 0))).toArray (by simp) rfl (by kernel_rfl) rfl (opCells_arr _) ?_
  · go_simp; (try with_reducible rfl)
  simp only [Act.put, stA_, st0_, st1_]
  have HY3 : RowKit.Hid (Whole (w2.alloc (.cells (opCells (kO kI (0, 0))).toArray 53)) w2.heap.size 53 (opCells (kO kI (0, 0)))) := Lib.hid (Whole.new_ _ _ _)
  have Hgb5 : RowKit.Hid (g < w2.heap.size ∧ b < w2.heap.size) := Lib.hid ⟨HC2.out.lt, HX2.out.lt⟩
  have HX3 := Lib.hid (HX2.out.al (.cells (opCells (kO kI (0, 0))).toArray 53))
  have HK3 := Lib.hid (HK2.out.alloc (.cells (opCells (kO kI (0, 0))).toArray 53))
  have HC3 := Lib.hid (HC2.out.al (.cells (opCells (kO kI (0, 0))).toArray 53))
  obtain ⟨w3, gw3⟩ : ∃ z, w2.alloc (.cells (opCells (kO kI (0, 0))).toArray 53) = z := ⟨_, rfl⟩
  obtain ⟨b5, gb5⟩ : ∃ z, w2.heap.size = z := ⟨_, rfl⟩
  rw [gw3] at HY3 HX3 HK3 HC3 ⊢
  rw [gb5] at HY3 Hgb5 ⊢
  clear gw3 gb5 HX2 HK2 HC2 hK
  have hb5 : RowKit.Hid (w.heap.size ≤ b5) := Lib.hid (by have := Gb.out; have := Hgb5.out.2; omega)
  go_wp2_with fail
  refine (HFI.out _ _ _ HC3.out).mono ?_
  rintro e w4 ⟨x1, x2, M, rfl, hcu, hok⟩
  have HX4 := Lib.hid (hcu.2.whole HX3.out (fun e => by have h1 : b = g := e; have := Hgb.out; omega))
  have HY4 := Lib.hid (hcu.2.whole HY3.out (fun e => by have h1 : b5 = g := e; have := Hgb5.out; omega))
  have HK4 := Lib.hid (HK3.out.trans hcu.2)
  have HC4 := Lib.hid hcu.1
  have HOk := Lib.hid hok
  clear hok
  clear hcu HX3 HY3 HK3 HC3
  rename_i hK
  refine hK _ _ ?_
  refine wl_read (v := ?_) (some 16) rfl (by rfl) ?_ ?_
  rotate_left
  · go_simp; (try with_reducible rfl)
  simp only [Act.put, stA_, st0_, st1_]
  refine wl_store rfl (by rfl) (store_mid_run 47 (.tmp 16) (.tmp 15) rfl b5 1 rfl [.int .i64 x1, .int .i64 x2] rfl (HY4.out.there_ 1 2 (by show 3 ≤ 20; decide)) (by kernel_rfl) (by simp [Value.oneCell'])) ?_
  have HY5 := Lib.hid (HY4.out.cells_ [.int .i64 x1, .int .i64 x2] 1 w4 _ (by show 3 ≤ 20; decide))
  have HX5 := Lib.hid (HX4.out.cells_far (show b ≠ b5 by have := Hgb5.out.2; omega) 1 [.int .i64 x1, .int .i64 x2])
  have HC5 := Lib.hid (HC4.out.cells Hgb5.out.1 1 [.int .i64 x1, .int .i64 x2])
  have HK5 := Lib.hid (kept_in HK4.out hb5.out (kept_setCells (S := fun i => i = b5) rfl 1 [.int .i64 x1, .int .i64 x2]))
  obtain ⟨w5, gw5⟩ : ∃ z, w4.setCells b5 1 [.int .i64 x1, .int .i64 x2] = z := ⟨_, rfl⟩
  rw [gw5] at HY5 HX5 HC5 HK5 ⊢
  clear gw5 HX4 HY4 HK4 HC4
  replace HY5 : RowKit.Hid (Whole w5 b5 53 (opCells (kO kI (x1, x2)))) := HY5
  clear hK
  have HAt := Lib.hid (okO_at (fun q => (HOk.out q).2) bad)
  have HVal := Lib.hid (fun (R : List Nat) (o : OpT) ho q => okO_val (R := R) (o := o) HOk.out ho q)
  obtain ⟨B2, gB2⟩ : ∃ z, ((bad || !decide (1 ≤ L.length)) || !idT (L.drop 1)) = z := ⟨_, rfl⟩
  rw [gB2] at HC5 HAt
  clear gB2
  have l0 : w5.cell? ⟨b5, 0, none⟩ = some (.int .i64 kI) := HY5.out.cell (i := 0) rfl
  go_wp2_with fail
  refine (HF1.out _ _ _ HC5.out).mono ?_
  rintro e w6 ⟨rfl, hcu⟩
  have HX6 := Lib.hid (hcu.2.whole HX5.out (fun e => by have h1 : b = g := e; have := Hgb.out; omega))
  have HY6 := Lib.hid (hcu.2.whole HY5.out (fun e => by have h1 : b5 = g := e; have := Hgb5.out; omega))
  have HK6 := Lib.hid (HK5.out.trans hcu.2)
  have HC6 := Lib.hid hcu.1
  clear hcu HX5 HY5 HK5 HC5
  obtain ⟨fI, gfI⟩ : ∃ z : Int, (c1 M : Int) = z := ⟨_, rfl⟩
  rw [gfI]
  have GfI := Lib.hid gfI
  obtain ⟨fb, hfb⟩ : ∃ z, (fI == 1) = z := ⟨_, rfl⟩
  have Gfb := Lib.hid hfb
  obtain ⟨B3, gB3⟩ : ∃ z, (B2 || !decide (1 ≤ M.length)) = z := ⟨_, rfl⟩
  rw [gB3] at HC6
  have GB3 := Lib.hid gB3
  obtain ⟨M1, gM1⟩ : ∃ z, M.drop 1 = z := ⟨_, rfl⟩
  rw [gM1] at HC6
  have GM1 := Lib.hid gM1
  clear gfI gB3 l0 gM1
  have m1 := HY6.out.cell (i := 17) (v := .bool false) rfl
  have e1 := HY6.out.free 17
  go_upto_region 17 with fail
  clear m1 e1 hfb
  have HY7 := Lib.hid (HY6.out.set_ 17 (.bool fb))
  have HX7 := Lib.hid (HX6.out.far (p := ⟨b5, 17, none⟩) (show b ≠ b5 by have := Hgb5.out.2; omega) (.bool fb))
  have HC7 := Lib.hid (HC6.out.poke (i := 17) Hgb5.out.1 (.bool fb))
  have HK7 := Lib.hid (kept_poke (i := 17) HK6.out hb5.out (.bool fb))
  obtain ⟨w7, gw7⟩ : ∃ z, w6.setCell ⟨b5, 17, none⟩ (.bool fb) = z := ⟨_, rfl⟩
  rw [gw7] at HY7 HX7 HC7 HK7 ⊢
  clear gw7 HX6 HY6 HK6 HC6
  cases B3
  · have m1 := HC7.out.cell1
    have e1 := HC7.out.free 1
    go_upto_region 18 with fail
    clear m1 e1
    have hkg : Kept (At1 g) w7 (w7.setCell ⟨g, 1, none⟩ (.bool (decide (1 < fI)))) := kept_at _ _ _ _
    have HC8 := Lib.hid (HC7.out.setB (decide (1 < fI)))
    have HX8 := Lib.hid (hkg.whole HX7.out (fun e => by have h1 : b = g := e; have := Hgb.out; omega))
    have HY8 := Lib.hid (hkg.whole HY7.out (fun e => by have h1 : b5 = g := e; have := Hgb5.out; omega))
    have HK8 := Lib.hid (HK7.out.trans hkg)
    clear hkg
    obtain ⟨w8, gw8⟩ : ∃ z, w7.setCell ⟨g, 1, none⟩ (.bool (decide (1 < fI))) = z := ⟨_, rfl⟩
    rw [gw8] at HY8 HX8 HC8 HK8 ⊢
    clear gw8 HX7 HY7 HK7 HC7
    obtain ⟨B4, gB4⟩ : ∃ z, decide (1 < fI) = z := ⟨_, rfl⟩
    rw [gB4] at HC8 ⊢
    have GB4 := Lib.hid gB4
    clear gB4
    have l0 : w8.cell? ⟨b5, 0, none⟩ = some (.int .i64 kI) := HY8.out.cell (i := 0) rfl
    obtain ⟨A, n, c, a0, hr, hn, hn9, hlo⟩ := HC8.out.cell0
    have hb9 := HC8.out.bytes
    obtain ⟨tx, gtx⟩ : ∃ z, txT M1 = z := ⟨_, rfl⟩
    obtain ⟨ok, gok⟩ : ∃ z, isT M1 = z := ⟨_, rfl⟩
    have HT : RowKit.Hid (Calls Try.prog 77 #[.slice A n c] w8 fun e w' => ∃ A1 n1 c1, e = .returned (.tuple #[.string tx, .slice A1 n1 c1, .bool ok]) ∧ n1 = (leT M1).length ∧ RdS w' w'.heap.size 1 A1 n1 c1 (rowsV f8 (leT M1)) ∧ Lies A A1 ∧ Below w8.heap.size w8 w') := Lib.hid (by
      rw [← gtx, ← gok]
      subst hn; exact rtaketext_blk A c M1 w8 hr hn9 hb9)
    have Gtx := Lib.hid gtx
    have Gok := Lib.hid gok
    have Hlo := Lib.hid hlo
    have Hn9 := Lib.hid (And.intro hn9 hb9)
    have HnM := Lib.hid hn
    clear hr hn9 hb9 hlo hn gtx gok
    go_upto_region 20 with (first
      | (go_at_call 77
         refine HT.out.mono ?_
         rintro e w9 ⟨A1, n1, c1', rfl, hn1, hr1, hlies, hb⟩
         have HX9 := Lib.hid (HX8.out.bl hb)
         have HY9 := Lib.hid (HY8.out.bl hb)
         have HC9 := Lib.hid (HC8.out.bl hb)
         have HK9 := Lib.hid (HK8.out.trans (Kept.of_below hb))
         have Hr9 := Lib.hid hr1
         have Hn1 := Lib.hid hn1
         have Hl9 := Lib.hid hlies
         have m1 := HY9.out.cell (i := 18) (v := .string ⟨#[]⟩) rfl
         have e1 := HY9.out.free 18
         clear hb hn1 hr1 hlies a0 l0))
    clear HX8 HY8 HC8 HK8 HT
    have hl0 : n1 ≤ n := by have := Hn1.out; have : (leT M1).length ≤ M1.length := (by unfold leT; split <;> simp); have := HnM.out; omega
    have Hlo1 : RowKit.Hid (∀ a, A1 = some a → 0 < n1 → a.block < lo) := Lib.hid (fun a ha h0 => by
      obtain ⟨a0, ha0, he⟩ := Hl9.out a ha
      have := Hlo.out a0 ha0 (by omega)
      omega)
    have Hbr : RowKit.Hid (n1 ≤ 100000 ∧ ∀ b ∈ leT M1, b < 256) := Lib.hid ⟨by have := Hn9.out.1; omega, leT_lt Hn9.out.2⟩
    clear hl0
    go_upto_region 21 with fail
    clear m1 e1
    have Hr10 := Lib.hid (rds_hi (i := 18) Hr9.out Hlo1.out Hgb.out.2 Hgb5.out.1 (.string tx))
    have HY10 := Lib.hid (HY9.out.set_ 18 (.string tx))
    have HX10 := Lib.hid (HX9.out.far (p := ⟨b5, 18, none⟩) (show b ≠ b5 by have := Hgb5.out.2; omega) (.string tx))
    have HC10 := Lib.hid (HC9.out.poke (i := 18) Hgb5.out.1 (.string tx))
    have HK10 := Lib.hid (kept_poke (i := 18) HK9.out hb5.out (.string tx))
    obtain ⟨w10, gw10⟩ : ∃ z, w9.setCell ⟨b5, 18, none⟩ (.string tx) = z := ⟨_, rfl⟩
    rw [gw10] at Hr10 HY10 HX10 HC10 HK10 ⊢
    clear gw10 HX9 HY9 HK9 HC9
    obtain ⟨Ao, no, co, a0, -, -, -, -⟩ := HC10.out.cell0
    have f0 := HC10.out.free 0
    go_upto_region 22 with fail
    clear a0 f0
    have hkg : Kept (At1 g) w10 (w10.setCell ⟨g, 0, none⟩ (.slice A1 n1 c1')) := kept_at _ _ _ _
    have HC11 := Lib.hid (HC10.out.setR Hr10.out Hbr.out.1 Hlo1.out Hbr.out.2)
    have HX11 := Lib.hid (hkg.whole HX10.out (fun e => by have h1 : b = g := e; have := Hgb.out; omega))
    have HY11 := Lib.hid (hkg.whole HY10.out (fun e => by have h1 : b5 = g := e; have := Hgb5.out; omega))
    have HK11 := Lib.hid (HK10.out.trans hkg)
    clear hkg
    obtain ⟨w11, gw11⟩ : ∃ z, w10.setCell ⟨g, 0, none⟩ (.slice A1 n1 c1') = z := ⟨_, rfl⟩
    rw [gw11] at HY11 HX11 HC11 HK11 ⊢
    clear gw11 HX10 HY10 HK10 HC10
    cases B4
    · have m1 := HC11.out.cell1
      have e1 := HC11.out.free 1
      go_upto_region 23 with fail
      clear m1 e1
      have hkg : Kept (At1 g) w11 (w11.setCell ⟨g, 1, none⟩ (.bool (!ok))) := kept_at _ _ _ _
      have HC12 := Lib.hid (HC11.out.setB (!ok))
      have HX12 := Lib.hid (hkg.whole HX11.out (fun e => by have h1 : b = g := e; have := Hgb.out; omega))
      have HY12 := Lib.hid (hkg.whole HY11.out (fun e => by have h1 : b5 = g := e; have := Hgb5.out; omega))
      have HK12 := Lib.hid (HK11.out.trans hkg)
      clear hkg
      obtain ⟨w12, gw12⟩ : ∃ z, w11.setCell ⟨g, 1, none⟩ (.bool (!ok)) = z := ⟨_, rfl⟩
      rw [gw12] at HY12 HX12 HC12 HK12 ⊢
      clear gw12 HX11 HY11 HK11 HC11
      have l0 : w12.cell? ⟨b5, 0, none⟩ = some (.int .i64 kI) := HY12.out.cell (i := 0) rfl
      go_upto_region 28 with fail
      have Hbd : RowKit.Hid ((bad || !okO L) = !ok) := Lib.hid (by rw [HAt.out]; exact by rw [Hk.out, fd7_at GfI.out.symm B2, GB3.out, GB4.out, GM1.out, Gok.out]; rfl)
      have HV : RowKit.Hid (okO L = true → (⟨kI, x1, x2, 0, 0, 0, 0, 0, 0, 0, 0, 0, 0, 0, 0, 0, 0, fb, tx, 0⟩ : OpT) = opV L ∧ leT M1 = opL L) := Lib.hid (HVal.out _ _ (fun q => by
        rw [Hk.out] at q ⊢
        have j1 := okF_flag (k := 7) (.inl rfl) q
        have j2 : decide (c1 M ≠ 0) = fb := j1.trans (by rw [GfI.out]; exact Gfb.out)
        rw [show kI = 7 by have := GkI.out; have := Hk.out; omega, ← j2, ← Gtx.out, ← GM1.out]
        exact ⟨rfl, rfl⟩))
      replace HY12 : RowKit.Hid (Whole w12 b5 53 (opCells (⟨kI, x1, x2, 0, 0, 0, 0, 0, 0, 0, 0, 0, 0, 0, 0, 0, 0, fb, tx, 0⟩ : OpT))) := HY12
      obtain ⟨o9, go9⟩ : ∃ z, (⟨kI, x1, x2, 0, 0, 0, 0, 0, 0, 0, 0, 0, 0, 0, 0, 0, 0, fb, tx, 0⟩ : OpT) = z := ⟨_, rfl⟩
      rw [go9] at HV HY12
      clear go9
      refine wp_region_lit ?_
      refine wl_load (some 120) rfl (by rfl) 53 (.tmp 3) rfl b5 rfl 53 (opCells o9) _ HY12.out Try.underlying53 rfl (by kernel_rfl) ?_
      simp only [Act.put, stA_, st0_, st1_]
      refine wpList_store_row rfl 53 (.tmp 2) (.tmp 120) rfl b (opCells o9).toArray rfl rfl 53 (opCells zeroO).toArray HX12.out (by kernel_rfl) rfl (opCells_arr _) ?_
      have HXz : RowKit.Hid (Whole (w12.setRow b (opCells o9).toArray) b 53 (opCells o9)) := Lib.hid (Whole.row HX12.out (opCells o9))
      have HCz := Lib.hid (HC12.out.row Hgb.out.1 (opCells o9).toArray)
      have HKz := Lib.hid (kept_in HK12.out (Nat.le_of_eq Gb.out) (kept_row (S := fun i => i = b) rfl (opCells o9).toArray))
      go_wp2
      exact ret_whole rfl b rfl HXz.out Try.underlying53 rfl (by kernel_rfl) rfl ⟨o9, leT M1, rfl, ⟨by rw [Hbd.out]; exact HCz.out, HKz.out⟩, HV.out⟩
    · have m1 := HC11.out.cell1
      have e1 := HC11.out.free 1
      go_upto_region 23 with fail
      clear m1 e1
      have hkg : Kept (At1 g) w11 (w11.setCell ⟨g, 1, none⟩ (.bool true)) := kept_at _ _ _ _
      have HC12 := Lib.hid (HC11.out.setB true)
      have HX12 := Lib.hid (hkg.whole HX11.out (fun e => by have h1 : b = g := e; have := Hgb.out; omega))
      have HY12 := Lib.hid (hkg.whole HY11.out (fun e => by have h1 : b5 = g := e; have := Hgb5.out; omega))
      have HK12 := Lib.hid (HK11.out.trans hkg)
      clear hkg
      obtain ⟨w12, gw12⟩ : ∃ z, w11.setCell ⟨g, 1, none⟩ (.bool true) = z := ⟨_, rfl⟩
      rw [gw12] at HY12 HX12 HC12 HK12 ⊢
      clear gw12 HX11 HY11 HK11 HC11
      have l0 : w12.cell? ⟨b5, 0, none⟩ = some (.int .i64 kI) := HY12.out.cell (i := 0) rfl
      go_upto_region 28 with fail
      have Hbd : RowKit.Hid ((bad || !okO L) = true) := Lib.hid (by rw [HAt.out]; exact by rw [Hk.out, fd7_at GfI.out.symm B2, GB3.out, GB4.out]; rfl)
      have HV : RowKit.Hid (okO L = true → (⟨kI, x1, x2, 0, 0, 0, 0, 0, 0, 0, 0, 0, 0, 0, 0, 0, 0, fb, tx, 0⟩ : OpT) = opV L ∧ leT M1 = opL L) := Lib.hid (HVal.out _ _ (fun q => by
        rw [Hk.out] at q ⊢
        have j1 := okF_flag (k := 7) (.inl rfl) q
        have j2 : decide (c1 M ≠ 0) = fb := j1.trans (by rw [GfI.out]; exact Gfb.out)
        rw [show kI = 7 by have := GkI.out; have := Hk.out; omega, ← j2, ← Gtx.out, ← GM1.out]
        exact ⟨rfl, rfl⟩))
      replace HY12 : RowKit.Hid (Whole w12 b5 53 (opCells (⟨kI, x1, x2, 0, 0, 0, 0, 0, 0, 0, 0, 0, 0, 0, 0, 0, 0, fb, tx, 0⟩ : OpT))) := HY12
      obtain ⟨o9, go9⟩ : ∃ z, (⟨kI, x1, x2, 0, 0, 0, 0, 0, 0, 0, 0, 0, 0, 0, 0, 0, 0, fb, tx, 0⟩ : OpT) = z := ⟨_, rfl⟩
      rw [go9] at HV HY12
      clear go9
      refine wp_region_lit ?_
      refine wl_load (some 120) rfl (by rfl) 53 (.tmp 3) rfl b5 rfl 53 (opCells o9) _ HY12.out Try.underlying53 rfl (by kernel_rfl) ?_
      simp only [Act.put, stA_, st0_, st1_]
      refine wpList_store_row rfl 53 (.tmp 2) (.tmp 120) rfl b (opCells o9).toArray rfl rfl 53 (opCells zeroO).toArray HX12.out (by kernel_rfl) rfl (opCells_arr _) ?_
      have HXz : RowKit.Hid (Whole (w12.setRow b (opCells o9).toArray) b 53 (opCells o9)) := Lib.hid (Whole.row HX12.out (opCells o9))
      have HCz := Lib.hid (HC12.out.row Hgb.out.1 (opCells o9).toArray)
      have HKz := Lib.hid (kept_in HK12.out (Nat.le_of_eq Gb.out) (kept_row (S := fun i => i = b) rfl (opCells o9).toArray))
      go_wp2
      exact ret_whole rfl b rfl HXz.out Try.underlying53 rfl (by kernel_rfl) rfl ⟨o9, leT M1, rfl, ⟨by rw [Hbd.out]; exact HCz.out, HKz.out⟩, HV.out⟩
  · have m1 := HC7.out.cell1
    have e1 := HC7.out.free 1
    go_upto_region 18 with fail
    clear m1 e1
    have hkg : Kept (At1 g) w7 (w7.setCell ⟨g, 1, none⟩ (.bool true)) := kept_at _ _ _ _
    have HC8 := Lib.hid (HC7.out.setB (true))
    have HX8 := Lib.hid (hkg.whole HX7.out (fun e => by have h1 : b = g := e; have := Hgb.out; omega))
    have HY8 := Lib.hid (hkg.whole HY7.out (fun e => by have h1 : b5 = g := e; have := Hgb5.out; omega))
    have HK8 := Lib.hid (HK7.out.trans hkg)
    clear hkg
    obtain ⟨w8, gw8⟩ : ∃ z, w7.setCell ⟨g, 1, none⟩ (.bool true) = z := ⟨_, rfl⟩
    rw [gw8] at HY8 HX8 HC8 HK8 ⊢
    clear gw8 HX7 HY7 HK7 HC7
    have l0 : w8.cell? ⟨b5, 0, none⟩ = some (.int .i64 kI) := HY8.out.cell (i := 0) rfl
    obtain ⟨A, n, c, a0, hr, hn, hn9, hlo⟩ := HC8.out.cell0
    have hb9 := HC8.out.bytes
    obtain ⟨tx, gtx⟩ : ∃ z, txT M1 = z := ⟨_, rfl⟩
    obtain ⟨ok, gok⟩ : ∃ z, isT M1 = z := ⟨_, rfl⟩
    have HT : RowKit.Hid (Calls Try.prog 77 #[.slice A n c] w8 fun e w' => ∃ A1 n1 c1, e = .returned (.tuple #[.string tx, .slice A1 n1 c1, .bool ok]) ∧ n1 = (leT M1).length ∧ RdS w' w'.heap.size 1 A1 n1 c1 (rowsV f8 (leT M1)) ∧ Lies A A1 ∧ Below w8.heap.size w8 w') := Lib.hid (by
      rw [← gtx, ← gok]
      subst hn; exact rtaketext_blk A c M1 w8 hr hn9 hb9)
    have Gtx := Lib.hid gtx
    have Gok := Lib.hid gok
    have Hlo := Lib.hid hlo
    have Hn9 := Lib.hid (And.intro hn9 hb9)
    have HnM := Lib.hid hn
    clear hr hn9 hb9 hlo hn gtx gok
    go_upto_region 20 with (first
      | (go_at_call 77
         refine HT.out.mono ?_
         rintro e w9 ⟨A1, n1, c1', rfl, hn1, hr1, hlies, hb⟩
         have HX9 := Lib.hid (HX8.out.bl hb)
         have HY9 := Lib.hid (HY8.out.bl hb)
         have HC9 := Lib.hid (HC8.out.bl hb)
         have HK9 := Lib.hid (HK8.out.trans (Kept.of_below hb))
         have Hr9 := Lib.hid hr1
         have Hn1 := Lib.hid hn1
         have Hl9 := Lib.hid hlies
         have m1 := HY9.out.cell (i := 18) (v := .string ⟨#[]⟩) rfl
         have e1 := HY9.out.free 18
         clear hb hn1 hr1 hlies a0 l0))
    clear HX8 HY8 HC8 HK8 HT
    have hl0 : n1 ≤ n := by have := Hn1.out; have : (leT M1).length ≤ M1.length := (by unfold leT; split <;> simp); have := HnM.out; omega
    have Hlo1 : RowKit.Hid (∀ a, A1 = some a → 0 < n1 → a.block < lo) := Lib.hid (fun a ha h0 => by
      obtain ⟨a0, ha0, he⟩ := Hl9.out a ha
      have := Hlo.out a0 ha0 (by omega)
      omega)
    have Hbr : RowKit.Hid (n1 ≤ 100000 ∧ ∀ b ∈ leT M1, b < 256) := Lib.hid ⟨by have := Hn9.out.1; omega, leT_lt Hn9.out.2⟩
    clear hl0
    go_upto_region 21 with fail
    clear m1 e1
    have Hr10 := Lib.hid (rds_hi (i := 18) Hr9.out Hlo1.out Hgb.out.2 Hgb5.out.1 (.string tx))
    have HY10 := Lib.hid (HY9.out.set_ 18 (.string tx))
    have HX10 := Lib.hid (HX9.out.far (p := ⟨b5, 18, none⟩) (show b ≠ b5 by have := Hgb5.out.2; omega) (.string tx))
    have HC10 := Lib.hid (HC9.out.poke (i := 18) Hgb5.out.1 (.string tx))
    have HK10 := Lib.hid (kept_poke (i := 18) HK9.out hb5.out (.string tx))
    obtain ⟨w10, gw10⟩ : ∃ z, w9.setCell ⟨b5, 18, none⟩ (.string tx) = z := ⟨_, rfl⟩
    rw [gw10] at Hr10 HY10 HX10 HC10 HK10 ⊢
    clear gw10 HX9 HY9 HK9 HC9
    obtain ⟨Ao, no, co, a0, -, -, -, -⟩ := HC10.out.cell0
    have f0 := HC10.out.free 0
    go_upto_region 22 with fail
    clear a0 f0
    have hkg : Kept (At1 g) w10 (w10.setCell ⟨g, 0, none⟩ (.slice A1 n1 c1')) := kept_at _ _ _ _
    have HC11 := Lib.hid (HC10.out.setR Hr10.out Hbr.out.1 Hlo1.out Hbr.out.2)
    have HX11 := Lib.hid (hkg.whole HX10.out (fun e => by have h1 : b = g := e; have := Hgb.out; omega))
    have HY11 := Lib.hid (hkg.whole HY10.out (fun e => by have h1 : b5 = g := e; have := Hgb5.out; omega))
    have HK11 := Lib.hid (HK10.out.trans hkg)
    clear hkg
    obtain ⟨w11, gw11⟩ : ∃ z, w10.setCell ⟨g, 0, none⟩ (.slice A1 n1 c1') = z := ⟨_, rfl⟩
    rw [gw11] at HY11 HX11 HC11 HK11 ⊢
    clear gw11 HX10 HY10 HK10 HC10
    have m1 := HC11.out.cell1
    have e1 := HC11.out.free 1
    go_upto_region 23 with fail
    clear m1 e1
    have hkg : Kept (At1 g) w11 (w11.setCell ⟨g, 1, none⟩ (.bool true)) := kept_at _ _ _ _
    have HC12 := Lib.hid (HC11.out.setB true)
    have HX12 := Lib.hid (hkg.whole HX11.out (fun e => by have h1 : b = g := e; have := Hgb.out; omega))
    have HY12 := Lib.hid (hkg.whole HY11.out (fun e => by have h1 : b5 = g := e; have := Hgb5.out; omega))
    have HK12 := Lib.hid (HK11.out.trans hkg)
    clear hkg
    obtain ⟨w12, gw12⟩ : ∃ z, w11.setCell ⟨g, 1, none⟩ (.bool true) = z := ⟨_, rfl⟩
    rw [gw12] at HY12 HX12 HC12 HK12 ⊢
    clear gw12 HX11 HY11 HK11 HC11
    have l0 : w12.cell? ⟨b5, 0, none⟩ = some (.int .i64 kI) := HY12.out.cell (i := 0) rfl
    go_upto_region 28 with fail
    have Hbd : RowKit.Hid ((bad || !okO L) = true) := Lib.hid (by rw [HAt.out]; exact by rw [Hk.out, fd7_at GfI.out.symm B2, GB3.out]; rfl)
    have HV : RowKit.Hid (okO L = true → (⟨kI, x1, x2, 0, 0, 0, 0, 0, 0, 0, 0, 0, 0, 0, 0, 0, 0, fb, tx, 0⟩ : OpT) = opV L ∧ leT M1 = opL L) := Lib.hid (HVal.out _ _ (fun q => by
      rw [Hk.out] at q ⊢
      have j1 := okF_flag (k := 7) (.inl rfl) q
      have j2 : decide (c1 M ≠ 0) = fb := j1.trans (by rw [GfI.out]; exact Gfb.out)
      rw [show kI = 7 by have := GkI.out; have := Hk.out; omega, ← j2, ← Gtx.out, ← GM1.out]
      exact ⟨rfl, rfl⟩))
    replace HY12 : RowKit.Hid (Whole w12 b5 53 (opCells (⟨kI, x1, x2, 0, 0, 0, 0, 0, 0, 0, 0, 0, 0, 0, 0, 0, 0, fb, tx, 0⟩ : OpT))) := HY12
    obtain ⟨o9, go9⟩ : ∃ z, (⟨kI, x1, x2, 0, 0, 0, 0, 0, 0, 0, 0, 0, 0, 0, 0, 0, 0, fb, tx, 0⟩ : OpT) = z := ⟨_, rfl⟩
    rw [go9] at HV HY12
    clear go9
    refine wp_region_lit ?_
    refine wl_load (some 120) rfl (by rfl) 53 (.tmp 3) rfl b5 rfl 53 (opCells o9) _ HY12.out Try.underlying53 rfl (by kernel_rfl) ?_
    simp only [Act.put, stA_, st0_, st1_]
    refine wpList_store_row rfl 53 (.tmp 2) (.tmp 120) rfl b (opCells o9).toArray rfl rfl 53 (opCells zeroO).toArray HX12.out (by kernel_rfl) rfl (opCells_arr _) ?_
    have HXz : RowKit.Hid (Whole (w12.setRow b (opCells o9).toArray) b 53 (opCells o9)) := Lib.hid (Whole.row HX12.out (opCells o9))
    have HCz := Lib.hid (HC12.out.row Hgb.out.1 (opCells o9).toArray)
    have HKz := Lib.hid (kept_in HK12.out (Nat.le_of_eq Gb.out) (kept_row (S := fun i => i = b) rfl (opCells o9).toArray))
    go_wp2
    exact ret_whole rfl b rfl HXz.out Try.underlying53 rfl (by kernel_rfl) rfl ⟨o9, leT M1, rfl, ⟨by rw [Hbd.out]; exact HCz.out, HKz.out⟩, HV.out⟩
end Go.Proofs.Ytinfbaflkjghhaa
/- The document's reader: op of kind 8. -/
namespace Go.Proofs.Ytinfbaflkjghhaa
open Go.RowKit
set_option maxRecDepth 100000 in
set_option maxHeartbeats 4000000 in
theorem rrop_8 (lo g : Nat) (L : List Nat) (bad : Bool) (w : World) (h : RrAt lo w g L bad) (hk : c1 L = 8) :
    Calls Try.prog 61 #[.pointer (some ⟨g, 0, none⟩)] w fun e w' => ∃ (o : OpT) (R : List Nat), e = .returned (.agg (opCells o).toArray) ∧ Rr1 lo w w' g R (bad || !okO L) ∧ (okO L = true → o = opV L ∧ R = opL L) := by
  have HF1 := Lib.hid (fun R bad W h => rone_any lo g R bad W h)
  have HFI := Lib.hid (fun R bad W h => rrid_any lo g R bad W h)
  have HFC := Lib.hid (fun R bad W h => rrcorner_any lo g R bad W h)
  have HX0 : RowKit.Hid (Whole (w.alloc (.cells #[.int .i64 0, .int .i64 0, .int .i64 0, .int .i64 0, .int .i64 0, .int .i64 0, .int .i64 0, .int .i64 0, .int .i64 0, .int .i64 0, .int .i64 0, .int .i64 0, .int .i64 0, .int .i64 0, .int .i64 0, .int .i64 0, .int .i64 0, .bool false, .string ⟨#[]⟩, .int .i64 0] 53)) w.heap.size 53 (opCells zeroO)) := Lib.hid (Whole.new_ _ _ (opCells zeroO))
  have HC0 := Lib.hid (h.al (.cells #[.int .i64 0, .int .i64 0, .int .i64 0, .int .i64 0, .int .i64 0, .int .i64 0, .int .i64 0, .int .i64 0, .int .i64 0, .int .i64 0, .int .i64 0, .int .i64 0, .int .i64 0, .int .i64 0, .int .i64 0, .int .i64 0, .int .i64 0, .bool false, .string ⟨#[]⟩, .int .i64 0] 53))
  have HK0 : RowKit.Hid (Kept (At1 g) w (w.alloc (.cells #[.int .i64 0, .int .i64 0, .int .i64 0, .int .i64 0, .int .i64 0, .int .i64 0, .int .i64 0, .int .i64 0, .int .i64 0, .int .i64 0, .int .i64 0, .int .i64 0, .int .i64 0, .int .i64 0, .int .i64 0, .int .i64 0, .int .i64 0, .bool false, .string ⟨#[]⟩, .int .i64 0] 53))) := Lib.hid (Kept.of_below (below1 w _))
  have Hgb : RowKit.Hid (g < w.heap.size ∧ lo ≤ g) := Lib.hid ⟨h.lt, h.ge⟩
  obtain ⟨kI, gkI⟩ : ∃ z : Int, (c1 L : Int) = z := ⟨_, rfl⟩
  have GkI := Lib.hid gkI
  have Hk := Lib.hid hk
  have q3 : (kI == 3) = false := by rw [← gkI, hk]; rfl
  have q5 : (kI == 5) = false := by rw [← gkI, hk]; rfl
  have q6 : (kI == 6) = false := by rw [← gkI, hk]; rfl
  have q7 : (kI == 7) = false := by rw [← gkI, hk]; rfl
  have q8 : (kI == 8) = true := by rw [← gkI, hk]; rfl
  have HF1L : RowKit.Hid (∀ W, RrAt lo W g L bad → Calls Try.prog 60 #[.pointer (some ⟨g, 0, none⟩)] W fun e w' => e = .returned (.int .i64 kI) ∧ Rr1 lo W w' g (L.drop 1) (bad || !decide (1 ≤ L.length))) := Lib.hid (fun W h => gkI ▸ rone_any lo g L bad W h)
  clear h gkI hk
  go_enter Try.func61, Try.ntmps61
  go_upto_region 1 with fail
  obtain ⟨w0, gw0⟩ : ∃ z, w.alloc (.cells #[.int .i64 0, .int .i64 0, .int .i64 0, .int .i64 0, .int .i64 0, .int .i64 0, .int .i64 0, .int .i64 0, .int .i64 0, .int .i64 0, .int .i64 0, .int .i64 0, .int .i64 0, .int .i64 0, .int .i64 0, .int .i64 0, .int .i64 0, .bool false, .string ⟨#[]⟩, .int .i64 0] 53) = z := ⟨_, rfl⟩
  obtain ⟨b, gb⟩ : ∃ z, w.heap.size = z := ⟨_, rfl⟩
  rw [gw0] at HX0 HK0 HC0 ⊢
  rw [gb] at HX0 Hgb ⊢
  have Gb := Lib.hid gb
  clear gw0 gb
  go_wp2_with fail
  refine (HF1L.out _ HC0.out).mono ?_
  rintro e w2 ⟨rfl, hcu⟩
  have HX2 := Lib.hid (hcu.2.whole HX0.out (fun e => by have h1 : b = g := e; have := Hgb.out; omega))
  have HK2 := Lib.hid (HK0.out.trans hcu.2)
  have HC2 := Lib.hid hcu.1
  clear hcu HX0 HK0 HC0 HF1L
  rename_i hK
  refine hK _ _ ?_
  refine wl_read (v := .agg (opCells (kO kI (0, 0))).toArray) (some 13) rfl (by rfl) ?_ ?_
  · go_simp; rfl
  simp only [Act.put, stA_, st0_, st1_]
  refine wl_new 3 rfl rfl rfl 53 (.tmp 13) rfl rfl #[.int .i64 0, .int .i64 0, .int .i64 0, .int .i64 0, .int .i64 0, .int .i64 0, .int .i64 0, .int .i64 0, .int .i64 0, .int .i64 0, .int .i64 0, .int .i64 0, .int .i64 0, .int .i64 0, .int .i64 0, .int .i64 0, .int .i64 0, .bool false, .string ⟨#[]⟩, .int .i64 0] ?_ (opCells (kO kI (0, 0))).toArray (by simp) rfl (by kernel_rfl) rfl (opCells_arr _) ?_
  · go_simp; (try with_reducible rfl)
  simp only [Act.put, stA_, st0_, st1_]
  have HY3 : RowKit.Hid (Whole (w2.alloc (.cells (opCells (kO kI (0, 0))).toArray 53)) w2.heap.size 53 (opCells (kO kI (0, 0)))) := Lib.hid (Whole.new_ _ _ _)
  have Hgb5 : RowKit.Hid (g < w2.heap.size ∧ b < w2.heap.size) := Lib.hid ⟨HC2.out.lt, HX2.out.lt⟩
  have HX3 := Lib.hid (HX2.out.al (.cells (opCells (kO kI (0, 0))).toArray 53))
  have HK3 := Lib.hid (HK2.out.alloc (.cells (opCells (kO kI (0, 0))).toArray 53))
  have HC3 := Lib.hid (HC2.out.al (.cells (opCells (kO kI (0, 0))).toArray 53))
  obtain ⟨w3, gw3⟩ : ∃ z, w2.alloc (.cells (opCells (kO kI (0, 0))).toArray 53) = z := ⟨_, rfl⟩
  obtain ⟨b5, gb5⟩ : ∃ z, w2.heap.size = z := ⟨_, rfl⟩
  rw [gw3] at HY3 HX3 HK3 HC3 ⊢
  rw [gb5] at HY3 Hgb5 ⊢
  clear gw3 gb5 HX2 HK2 HC2 hK
  have hb5 : RowKit.Hid (w.heap.size ≤ b5) := Lib.hid (by have := Gb.out; have := Hgb5.out.2; omega)
  go_wp2_with fail
  refine (HFI.out _ _ _ HC3.out).mono ?_
  rintro e w4 ⟨x1, x2, M, rfl, hcu, hok⟩
  have HX4 := Lib.hid (hcu.2.whole HX3.out (fun e => by have h1 : b = g := e; have := Hgb.out; omega))
  have HY4 := Lib.hid (hcu.2.whole HY3.out (fun e => by have h1 : b5 = g := e; have := Hgb5.out; omega))
  have HK4 := Lib.hid (HK3.out.trans hcu.2)
  have HC4 := Lib.hid hcu.1
  have HOk := Lib.hid hok
  clear hok
  clear hcu HX3 HY3 HK3 HC3
  rename_i hK
  refine hK _ _ ?_
  refine wl_read (v := ?_) (some 16) rfl (by rfl) ?_ ?_
  rotate_left
  · go_simp; (try with_reducible rfl)
  simp only [Act.put, stA_, st0_, st1_]
  refine wl_store rfl (by rfl) (store_mid_run 47 (.tmp 16) (.tmp 15) rfl b5 1 rfl [.int .i64 x1, .int .i64 x2] rfl (HY4.out.there_ 1 2 (by show 3 ≤ 20; decide)) (by kernel_rfl) (by simp [Value.oneCell'])) ?_
  have HY5 := Lib.hid (HY4.out.cells_ [.int .i64 x1, .int .i64 x2] 1 w4 _ (by show 3 ≤ 20; decide))
  have HX5 := Lib.hid (HX4.out.cells_far (show b ≠ b5 by have := Hgb5.out.2; omega) 1 [.int .i64 x1, .int .i64 x2])
  have HC5 := Lib.hid (HC4.out.cells Hgb5.out.1 1 [.int .i64 x1, .int .i64 x2])
  have HK5 := Lib.hid (kept_in HK4.out hb5.out (kept_setCells (S := fun i => i = b5) rfl 1 [.int .i64 x1, .int .i64 x2]))
  obtain ⟨w5, gw5⟩ : ∃ z, w4.setCells b5 1 [.int .i64 x1, .int .i64 x2] = z := ⟨_, rfl⟩
  rw [gw5] at HY5 HX5 HC5 HK5 ⊢
  clear gw5 HX4 HY4 HK4 HC4
  replace HY5 : RowKit.Hid (Whole w5 b5 53 (opCells (kO kI (x1, x2)))) := HY5
  clear hK
  have HAt := Lib.hid (okO_at (fun q => (HOk.out q).2) bad)
  have HVal := Lib.hid (fun (R : List Nat) (o : OpT) ho q => okO_val (R := R) (o := o) HOk.out ho q)
  obtain ⟨B2, gB2⟩ : ∃ z, ((bad || !decide (1 ≤ L.length)) || !idT (L.drop 1)) = z := ⟨_, rfl⟩
  rw [gB2] at HC5 HAt
  clear gB2
  have l0 : w5.cell? ⟨b5, 0, none⟩ = some (.int .i64 kI) := HY5.out.cell (i := 0) rfl
  go_wp2_with fail
  refine (HF1.out _ _ _ HC5.out).mono ?_
  rintro e w6 ⟨rfl, hcu⟩
  have HX6 := Lib.hid (hcu.2.whole HX5.out (fun e => by have h1 : b = g := e; have := Hgb.out; omega))
  have HY6 := Lib.hid (hcu.2.whole HY5.out (fun e => by have h1 : b5 = g := e; have := Hgb5.out; omega))
  have HK6 := Lib.hid (HK5.out.trans hcu.2)
  have HC6 := Lib.hid hcu.1
  clear hcu HX5 HY5 HK5 HC5
  obtain ⟨fI, gfI⟩ : ∃ z : Int, (c1 M : Int) = z := ⟨_, rfl⟩
  rw [gfI]
  have GfI := Lib.hid gfI
  obtain ⟨fb, hfb⟩ : ∃ z, (fI == 1) = z := ⟨_, rfl⟩
  have Gfb := Lib.hid hfb
  obtain ⟨B3, gB3⟩ : ∃ z, (B2 || !decide (1 ≤ M.length)) = z := ⟨_, rfl⟩
  rw [gB3] at HC6
  have GB3 := Lib.hid gB3
  obtain ⟨M1, gM1⟩ : ∃ z, M.drop 1 = z := ⟨_, rfl⟩
  rw [gM1] at HC6
  have GM1 := Lib.hid gM1
  clear gfI gB3 l0 gM1
  have m1 := HY6.out.cell (i := 17) (v := .bool false) rfl
  have e1 := HY6.out.free 17
  go_upto_region 17 with fail
  clear m1 e1 hfb
  have HY7 := Lib.hid (HY6.out.set_ 17 (.bool fb))
  have HX7 := Lib.hid (HX6.out.far (p := ⟨b5, 17, none⟩) (show b ≠ b5 by have := Hgb5.out.2; omega) (.bool fb))
  have HC7 := Lib.hid (HC6.out.poke (i := 17) Hgb5.out.1 (.bool fb))
  have HK7 := Lib.hid (kept_poke (i := 17) HK6.out hb5.out (.bool fb))
  obtain ⟨w7, gw7⟩ : ∃ z, w6.setCell ⟨b5, 17, none⟩ (.bool fb) = z := ⟨_, rfl⟩
  rw [gw7] at HY7 HX7 HC7 HK7 ⊢
  clear gw7 HX6 HY6 HK6 HC6
  cases B3
  · have m1 := HC7.out.cell1
    have e1 := HC7.out.free 1
    go_upto_region 18 with fail
    clear m1 e1
    have hkg : Kept (At1 g) w7 (w7.setCell ⟨g, 1, none⟩ (.bool (decide (1 < fI)))) := kept_at _ _ _ _
    have HC8 := Lib.hid (HC7.out.setB (decide (1 < fI)))
    have HX8 := Lib.hid (hkg.whole HX7.out (fun e => by have h1 : b = g := e; have := Hgb.out; omega))
    have HY8 := Lib.hid (hkg.whole HY7.out (fun e => by have h1 : b5 = g := e; have := Hgb5.out; omega))
    have HK8 := Lib.hid (HK7.out.trans hkg)
    clear hkg
    obtain ⟨w8, gw8⟩ : ∃ z, w7.setCell ⟨g, 1, none⟩ (.bool (decide (1 < fI))) = z := ⟨_, rfl⟩
    rw [gw8] at HY8 HX8 HC8 HK8 ⊢
    clear gw8 HX7 HY7 HK7 HC7
    obtain ⟨B4, gB4⟩ : ∃ z, decide (1 < fI) = z := ⟨_, rfl⟩
    rw [gB4] at HC8 ⊢
    have GB4 := Lib.hid gB4
    clear gB4
    have l0 : w8.cell? ⟨b5, 0, none⟩ = some (.int .i64 kI) := HY8.out.cell (i := 0) rfl
    obtain ⟨A, n, c, a0, hr, hn, hn9, hlo⟩ := HC8.out.cell0
    have hb9 := HC8.out.bytes
    obtain ⟨tx, gtx⟩ : ∃ z, vM M1 = z := ⟨_, rfl⟩
    obtain ⟨ok, gok⟩ : ∃ z, decide (8 ≤ M1.length) = z := ⟨_, rfl⟩
    have HT : RowKit.Hid (Calls Try.prog 22 #[.slice A n c] w8 fun e w' => ∃ A1 n1 c1, e = .returned (.tuple #[.int .i64 tx, .slice A1 n1 c1, .bool ok]) ∧ n1 = (lM M1).length ∧ RdS w' w'.heap.size 1 A1 n1 c1 (rowsV f8 (lM M1)) ∧ Lies A A1 ∧ Below w8.heap.size w8 w') := Lib.hid (by
      rw [← gtx, ← gok]
      exact rtakenum_blk A n c M1 w8 hr hn9 hb9)
    have Gtx := Lib.hid gtx
    have Gok := Lib.hid gok
    have Hlo := Lib.hid hlo
    have Hn9 := Lib.hid (And.intro hn9 hb9)
    have HnM := Lib.hid hn
    clear hr hn9 hb9 hlo hn gtx gok
    go_upto_region 25 with (first
      | (go_at_call 22
         refine HT.out.mono ?_
         rintro e w9 ⟨A1, n1, c1', rfl, hn1, hr1, hlies, hb⟩
         have HX9 := Lib.hid (HX8.out.bl hb)
         have HY9 := Lib.hid (HY8.out.bl hb)
         have HC9 := Lib.hid (HC8.out.bl hb)
         have HK9 := Lib.hid (HK8.out.trans (Kept.of_below hb))
         have Hr9 := Lib.hid hr1
         have Hn1 := Lib.hid hn1
         have Hl9 := Lib.hid hlies
         have m1 := HY9.out.cell (i := 19) (v := .int .i64 0) rfl
         have e1 := HY9.out.free 19
         clear hb hn1 hr1 hlies a0 l0))
    clear HX8 HY8 HC8 HK8 HT
    have hl0 : n1 ≤ n := by have := Hn1.out; have : (lM M1).length ≤ M1.length := (by unfold lM; split <;> simp); have := HnM.out; omega
    have Hlo1 : RowKit.Hid (∀ a, A1 = some a → 0 < n1 → a.block < lo) := Lib.hid (fun a ha h0 => by
      obtain ⟨a0, ha0, he⟩ := Hl9.out a ha
      have := Hlo.out a0 ha0 (by omega)
      omega)
    have Hbr : RowKit.Hid (n1 ≤ 100000 ∧ ∀ b ∈ lM M1, b < 256) := Lib.hid ⟨by have := Hn9.out.1; omega, lM_lt Hn9.out.2⟩
    clear hl0
    go_upto_region 26 with fail
    clear m1 e1
    have Hr10 := Lib.hid (rds_hi (i := 19) Hr9.out Hlo1.out Hgb.out.2 Hgb5.out.1 (.int .i64 tx))
    have HY10 := Lib.hid (HY9.out.set_ 19 (.int .i64 tx))
    have HX10 := Lib.hid (HX9.out.far (p := ⟨b5, 19, none⟩) (show b ≠ b5 by have := Hgb5.out.2; omega) (.int .i64 tx))
    have HC10 := Lib.hid (HC9.out.poke (i := 19) Hgb5.out.1 (.int .i64 tx))
    have HK10 := Lib.hid (kept_poke (i := 19) HK9.out hb5.out (.int .i64 tx))
    obtain ⟨w10, gw10⟩ : ∃ z, w9.setCell ⟨b5, 19, none⟩ (.int .i64 tx) = z := ⟨_, rfl⟩
    rw [gw10] at Hr10 HY10 HX10 HC10 HK10 ⊢
    clear gw10 HX9 HY9 HK9 HC9
    obtain ⟨Ao, no, co, a0, -, -, -, -⟩ := HC10.out.cell0
    have f0 := HC10.out.free 0
    go_upto_region 27 with fail
    clear a0 f0
    have hkg : Kept (At1 g) w10 (w10.setCell ⟨g, 0, none⟩ (.slice A1 n1 c1')) := kept_at _ _ _ _
    have HC11 := Lib.hid (HC10.out.setR Hr10.out Hbr.out.1 Hlo1.out Hbr.out.2)
    have HX11 := Lib.hid (hkg.whole HX10.out (fun e => by have h1 : b = g := e; have := Hgb.out; omega))
    have HY11 := Lib.hid (hkg.whole HY10.out (fun e => by have h1 : b5 = g := e; have := Hgb5.out; omega))
    have HK11 := Lib.hid (HK10.out.trans hkg)
    clear hkg
    obtain ⟨w11, gw11⟩ : ∃ z, w10.setCell ⟨g, 0, none⟩ (.slice A1 n1 c1') = z := ⟨_, rfl⟩
    rw [gw11] at HY11 HX11 HC11 HK11 ⊢
    clear gw11 HX10 HY10 HK10 HC10
    cases B4
    · have m1 := HC11.out.cell1
      have e1 := HC11.out.free 1
      go_upto_region 28 with fail
      clear m1 e1
      have hkg : Kept (At1 g) w11 (w11.setCell ⟨g, 1, none⟩ (.bool (!ok))) := kept_at _ _ _ _
      have HC12 := Lib.hid (HC11.out.setB (!ok))
      have HX12 := Lib.hid (hkg.whole HX11.out (fun e => by have h1 : b = g := e; have := Hgb.out; omega))
      have HY12 := Lib.hid (hkg.whole HY11.out (fun e => by have h1 : b5 = g := e; have := Hgb5.out; omega))
      have HK12 := Lib.hid (HK11.out.trans hkg)
      clear hkg
      obtain ⟨w12, gw12⟩ : ∃ z, w11.setCell ⟨g, 1, none⟩ (.bool (!ok)) = z := ⟨_, rfl⟩
      rw [gw12] at HY12 HX12 HC12 HK12 ⊢
      clear gw12 HX11 HY11 HK11 HC11
      have l0 : w12.cell? ⟨b5, 0, none⟩ = some (.int .i64 kI) := HY12.out.cell (i := 0) rfl
      go_upto_region 28 with fail
      have Hbd : RowKit.Hid ((bad || !okO L) = !ok) := Lib.hid (by rw [HAt.out]; exact by rw [Hk.out, fd8_at GfI.out.symm B2, GB3.out, GB4.out, GM1.out, Gok.out]; rfl)
      have HV : RowKit.Hid (okO L = true → (⟨kI, x1, x2, 0, 0, 0, 0, 0, 0, 0, 0, 0, 0, 0, 0, 0, 0, fb, ⟨#[]⟩, tx⟩ : OpT) = opV L ∧ lM M1 = opL L) := Lib.hid (HVal.out _ _ (fun q => by
        rw [Hk.out] at q ⊢
        have j1 := okF_flag (k := 8) (.inr rfl) q
        have j2 : decide (c1 M ≠ 0) = fb := j1.trans (by rw [GfI.out]; exact Gfb.out)
        rw [show kI = 8 by have := GkI.out; have := Hk.out; omega, ← j2, ← Gtx.out, ← GM1.out]
        exact ⟨rfl, rfl⟩))
      replace HY12 : RowKit.Hid (Whole w12 b5 53 (opCells (⟨kI, x1, x2, 0, 0, 0, 0, 0, 0, 0, 0, 0, 0, 0, 0, 0, 0, fb, ⟨#[]⟩, tx⟩ : OpT))) := HY12
      obtain ⟨o9, go9⟩ : ∃ z, (⟨kI, x1, x2, 0, 0, 0, 0, 0, 0, 0, 0, 0, 0, 0, 0, 0, 0, fb, ⟨#[]⟩, tx⟩ : OpT) = z := ⟨_, rfl⟩
      rw [go9] at HV HY12
      clear go9
      refine wp_region_lit ?_
      refine wl_load (some 120) rfl (by rfl) 53 (.tmp 3) rfl b5 rfl 53 (opCells o9) _ HY12.out Try.underlying53 rfl (by kernel_rfl) ?_
      simp only [Act.put, stA_, st0_, st1_]
      refine wpList_store_row rfl 53 (.tmp 2) (.tmp 120) rfl b (opCells o9).toArray rfl rfl 53 (opCells zeroO).toArray HX12.out (by kernel_rfl) rfl (opCells_arr _) ?_
      have HXz : RowKit.Hid (Whole (w12.setRow b (opCells o9).toArray) b 53 (opCells o9)) := Lib.hid (Whole.row HX12.out (opCells o9))
      have HCz := Lib.hid (HC12.out.row Hgb.out.1 (opCells o9).toArray)
      have HKz := Lib.hid (kept_in HK12.out (Nat.le_of_eq Gb.out) (kept_row (S := fun i => i = b) rfl (opCells o9).toArray))
      go_wp2
      exact ret_whole rfl b rfl HXz.out Try.underlying53 rfl (by kernel_rfl) rfl ⟨o9, lM M1, rfl, ⟨by rw [Hbd.out]; exact HCz.out, HKz.out⟩, HV.out⟩
    · have m1 := HC11.out.cell1
      have e1 := HC11.out.free 1
      go_upto_region 28 with fail
      clear m1 e1
      have hkg : Kept (At1 g) w11 (w11.setCell ⟨g, 1, none⟩ (.bool true)) := kept_at _ _ _ _
      have HC12 := Lib.hid (HC11.out.setB true)
      have HX12 := Lib.hid (hkg.whole HX11.out (fun e => by have h1 : b = g := e; have := Hgb.out; omega))
      have HY12 := Lib.hid (hkg.whole HY11.out (fun e => by have h1 : b5 = g := e; have := Hgb5.out; omega))
      have HK12 := Lib.hid (HK11.out.trans hkg)
      clear hkg
      obtain ⟨w12, gw12⟩ : ∃ z, w11.setCell ⟨g, 1, none⟩ (.bool true) = z := ⟨_, rfl⟩
      rw [gw12] at HY12 HX12 HC12 HK12 ⊢
      clear gw12 HX11 HY11 HK11 HC11
      have l0 : w12.cell? ⟨b5, 0, none⟩ = some (.int .i64 kI) := HY12.out.cell (i := 0) rfl
      go_upto_region 28 with fail
      have Hbd : RowKit.Hid ((bad || !okO L) = true) := Lib.hid (by rw [HAt.out]; exact by rw [Hk.out, fd8_at GfI.out.symm B2, GB3.out, GB4.out]; rfl)
      have HV : RowKit.Hid (okO L = true → (⟨kI, x1, x2, 0, 0, 0, 0, 0, 0, 0, 0, 0, 0, 0, 0, 0, 0, fb, ⟨#[]⟩, tx⟩ : OpT) = opV L ∧ lM M1 = opL L) := Lib.hid (HVal.out _ _ (fun q => by
        rw [Hk.out] at q ⊢
        have j1 := okF_flag (k := 8) (.inr rfl) q
        have j2 : decide (c1 M ≠ 0) = fb := j1.trans (by rw [GfI.out]; exact Gfb.out)
        rw [show kI = 8 by have := GkI.out; have := Hk.out; omega, ← j2, ← Gtx.out, ← GM1.out]
        exact ⟨rfl, rfl⟩))
      replace HY12 : RowKit.Hid (Whole w12 b5 53 (opCells (⟨kI, x1, x2, 0, 0, 0, 0, 0, 0, 0, 0, 0, 0, 0, 0, 0, 0, fb, ⟨#[]⟩, tx⟩ : OpT))) := HY12
      obtain ⟨o9, go9⟩ : ∃ z, (⟨kI, x1, x2, 0, 0, 0, 0, 0, 0, 0, 0, 0, 0, 0, 0, 0, 0, fb, ⟨#[]⟩, tx⟩ : OpT) = z := ⟨_, rfl⟩
      rw [go9] at HV HY12
      clear go9
      refine wp_region_lit ?_
      refine wl_load (some 120) rfl (by rfl) 53 (.tmp 3) rfl b5 rfl 53 (opCells o9) _ HY12.out Try.underlying53 rfl (by kernel_rfl) ?_
      simp only [Act.put, stA_, st0_, st1_]
      refine wpList_store_row rfl 53 (.tmp 2) (.tmp 120) rfl b (opCells o9).toArray rfl rfl 53 (opCells zeroO).toArray HX12.out (by kernel_rfl) rfl (opCells_arr _) ?_
      have HXz : RowKit.Hid (Whole (w12.setRow b (opCells o9).toArray) b 53 (opCells o9)) := Lib.hid (Whole.row HX12.out (opCells o9))
      have HCz := Lib.hid (HC12.out.row Hgb.out.1 (opCells o9).toArray)
      have HKz := Lib.hid (kept_in HK12.out (Nat.le_of_eq Gb.out) (kept_row (S := fun i => i = b) rfl (opCells o9).toArray))
      go_wp2
      exact ret_whole rfl b rfl HXz.out Try.underlying53 rfl (by kernel_rfl) rfl ⟨o9, lM M1, rfl, ⟨by rw [Hbd.out]; exact HCz.out, HKz.out⟩, HV.out⟩
  · have m1 := HC7.out.cell1
    have e1 := HC7.out.free 1
    go_upto_region 18 with fail
    clear m1 e1
    have hkg : Kept (At1 g) w7 (w7.setCell ⟨g, 1, none⟩ (.bool true)) := kept_at _ _ _ _
    have HC8 := Lib.hid (HC7.out.setB (true))
    have HX8 := Lib.hid (hkg.whole HX7.out (fun e => by have h1 : b = g := e; have := Hgb.out; omega))
    have HY8 := Lib.hid (hkg.whole HY7.out (fun e => by have h1 : b5 = g := e; have := Hgb5.out; omega))
    have HK8 := Lib.hid (HK7.out.trans hkg)
    clear hkg
    obtain ⟨w8, gw8⟩ : ∃ z, w7.setCell ⟨g, 1, none⟩ (.bool true) = z := ⟨_, rfl⟩
    rw [gw8] at HY8 HX8 HC8 HK8 ⊢
    clear gw8 HX7 HY7 HK7 HC7
    have l0 : w8.cell? ⟨b5, 0, none⟩ = some (.int .i64 kI) := HY8.out.cell (i := 0) rfl
    obtain ⟨A, n, c, a0, hr, hn, hn9, hlo⟩ := HC8.out.cell0
    have hb9 := HC8.out.bytes
    obtain ⟨tx, gtx⟩ : ∃ z, vM M1 = z := ⟨_, rfl⟩
    obtain ⟨ok, gok⟩ : ∃ z, decide (8 ≤ M1.length) = z := ⟨_, rfl⟩
    have HT : RowKit.Hid (Calls Try.prog 22 #[.slice A n c] w8 fun e w' => ∃ A1 n1 c1, e = .returned (.tuple #[.int .i64 tx, .slice A1 n1 c1, .bool ok]) ∧ n1 = (lM M1).length ∧ RdS w' w'.heap.size 1 A1 n1 c1 (rowsV f8 (lM M1)) ∧ Lies A A1 ∧ Below w8.heap.size w8 w') := Lib.hid (by
      rw [← gtx, ← gok]
      exact rtakenum_blk A n c M1 w8 hr hn9 hb9)
    have Gtx := Lib.hid gtx
    have Gok := Lib.hid gok
    have Hlo := Lib.hid hlo
    have Hn9 := Lib.hid (And.intro hn9 hb9)
    have HnM := Lib.hid hn
    clear hr hn9 hb9 hlo hn gtx gok
    go_upto_region 25 with (first
      | (go_at_call 22
         refine HT.out.mono ?_
         rintro e w9 ⟨A1, n1, c1', rfl, hn1, hr1, hlies, hb⟩
         have HX9 := Lib.hid (HX8.out.bl hb)
         have HY9 := Lib.hid (HY8.out.bl hb)
         have HC9 := Lib.hid (HC8.out.bl hb)
         have HK9 := Lib.hid (HK8.out.trans (Kept.of_below hb))
         have Hr9 := Lib.hid hr1
         have Hn1 := Lib.hid hn1
         have Hl9 := Lib.hid hlies
         have m1 := HY9.out.cell (i := 19) (v := .int .i64 0) rfl
         have e1 := HY9.out.free 19
         clear hb hn1 hr1 hlies a0 l0))
    clear HX8 HY8 HC8 HK8 HT
    have hl0 : n1 ≤ n := by have := Hn1.out; have : (lM M1).length ≤ M1.length := (by unfold lM; split <;> simp); have := HnM.out; omega
    have Hlo1 : RowKit.Hid (∀ a, A1 = some a → 0 < n1 → a.block < lo) := Lib.hid (fun a ha h0 => by
      obtain ⟨a0, ha0, he⟩ := Hl9.out a ha
      have := Hlo.out a0 ha0 (by omega)
      omega)
    have Hbr : RowKit.Hid (n1 ≤ 100000 ∧ ∀ b ∈ lM M1, b < 256) := Lib.hid ⟨by have := Hn9.out.1; omega, lM_lt Hn9.out.2⟩
    clear hl0
    go_upto_region 26 with fail
    clear m1 e1
    have Hr10 := Lib.hid (rds_hi (i := 19) Hr9.out Hlo1.out Hgb.out.2 Hgb5.out.1 (.int .i64 tx))
    have HY10 := Lib.hid (HY9.out.set_ 19 (.int .i64 tx))
    have HX10 := Lib.hid (HX9.out.far (p := ⟨b5, 19, none⟩) (show b ≠ b5 by have := Hgb5.out.2; omega) (.int .i64 tx))
    have HC10 := Lib.hid (HC9.out.poke (i := 19) Hgb5.out.1 (.int .i64 tx))
    have HK10 := Lib.hid (kept_poke (i := 19) HK9.out hb5.out (.int .i64 tx))
    obtain ⟨w10, gw10⟩ : ∃ z, w9.setCell ⟨b5, 19, none⟩ (.int .i64 tx) = z := ⟨_, rfl⟩
    rw [gw10] at Hr10 HY10 HX10 HC10 HK10 ⊢
    clear gw10 HX9 HY9 HK9 HC9
    obtain ⟨Ao, no, co, a0, -, -, -, -⟩ := HC10.out.cell0
    have f0 := HC10.out.free 0
    go_upto_region 27 with fail
    clear a0 f0
    have hkg : Kept (At1 g) w10 (w10.setCell ⟨g, 0, none⟩ (.slice A1 n1 c1')) := kept_at _ _ _ _
    have HC11 := Lib.hid (HC10.out.setR Hr10.out Hbr.out.1 Hlo1.out Hbr.out.2)
    have HX11 := Lib.hid (hkg.whole HX10.out (fun e => by have h1 : b = g := e; have := Hgb.out; omega))
    have HY11 := Lib.hid (hkg.whole HY10.out (fun e => by have h1 : b5 = g := e; have := Hgb5.out; omega))
    have HK11 := Lib.hid (HK10.out.trans hkg)
    clear hkg
    obtain ⟨w11, gw11⟩ : ∃ z, w10.setCell ⟨g, 0, none⟩ (.slice A1 n1 c1') = z := ⟨_, rfl⟩
    rw [gw11] at HY11 HX11 HC11 HK11 ⊢
    clear gw11 HX10 HY10 HK10 HC10
    have m1 := HC11.out.cell1
    have e1 := HC11.out.free 1
    go_upto_region 28 with fail
    clear m1 e1
    have hkg : Kept (At1 g) w11 (w11.setCell ⟨g, 1, none⟩ (.bool true)) := kept_at _ _ _ _
    have HC12 := Lib.hid (HC11.out.setB true)
    have HX12 := Lib.hid (hkg.whole HX11.out (fun e => by have h1 : b = g := e; have := Hgb.out; omega))
    have HY12 := Lib.hid (hkg.whole HY11.out (fun e => by have h1 : b5 = g := e; have := Hgb5.out; omega))
    have HK12 := Lib.hid (HK11.out.trans hkg)
    clear hkg
    obtain ⟨w12, gw12⟩ : ∃ z, w11.setCell ⟨g, 1, none⟩ (.bool true) = z := ⟨_, rfl⟩
    rw [gw12] at HY12 HX12 HC12 HK12 ⊢
    clear gw12 HX11 HY11 HK11 HC11
    have l0 : w12.cell? ⟨b5, 0, none⟩ = some (.int .i64 kI) := HY12.out.cell (i := 0) rfl
    go_upto_region 28 with fail
    have Hbd : RowKit.Hid ((bad || !okO L) = true) := Lib.hid (by rw [HAt.out]; exact by rw [Hk.out, fd8_at GfI.out.symm B2, GB3.out]; rfl)
    have HV : RowKit.Hid (okO L = true → (⟨kI, x1, x2, 0, 0, 0, 0, 0, 0, 0, 0, 0, 0, 0, 0, 0, 0, fb, ⟨#[]⟩, tx⟩ : OpT) = opV L ∧ lM M1 = opL L) := Lib.hid (HVal.out _ _ (fun q => by
      rw [Hk.out] at q ⊢
      have j1 := okF_flag (k := 8) (.inr rfl) q
      have j2 : decide (c1 M ≠ 0) = fb := j1.trans (by rw [GfI.out]; exact Gfb.out)
      rw [show kI = 8 by have := GkI.out; have := Hk.out; omega, ← j2, ← Gtx.out, ← GM1.out]
      exact ⟨rfl, rfl⟩))
    replace HY12 : RowKit.Hid (Whole w12 b5 53 (opCells (⟨kI, x1, x2, 0, 0, 0, 0, 0, 0, 0, 0, 0, 0, 0, 0, 0, 0, fb, ⟨#[]⟩, tx⟩ : OpT))) := HY12
    obtain ⟨o9, go9⟩ : ∃ z, (⟨kI, x1, x2, 0, 0, 0, 0, 0, 0, 0, 0, 0, 0, 0, 0, 0, 0, fb, ⟨#[]⟩, tx⟩ : OpT) = z := ⟨_, rfl⟩
    rw [go9] at HV HY12
    clear go9
    refine wp_region_lit ?_
    refine wl_load (some 120) rfl (by rfl) 53 (.tmp 3) rfl b5 rfl 53 (opCells o9) _ HY12.out Try.underlying53 rfl (by kernel_rfl) ?_
    simp only [Act.put, stA_, st0_, st1_]
    refine wpList_store_row rfl 53 (.tmp 2) (.tmp 120) rfl b (opCells o9).toArray rfl rfl 53 (opCells zeroO).toArray HX12.out (by kernel_rfl) rfl (opCells_arr _) ?_
    have HXz : RowKit.Hid (Whole (w12.setRow b (opCells o9).toArray) b 53 (opCells o9)) := Lib.hid (Whole.row HX12.out (opCells o9))
    have HCz := Lib.hid (HC12.out.row Hgb.out.1 (opCells o9).toArray)
    have HKz := Lib.hid (kept_in HK12.out (Nat.le_of_eq Gb.out) (kept_row (S := fun i => i = b) rfl (opCells o9).toArray))
    go_wp2
    exact ret_whole rfl b rfl HXz.out Try.underlying53 rfl (by kernel_rfl) rfl ⟨o9, lM M1, rfl, ⟨by rw [Hbd.out]; exact HCz.out, HKz.out⟩, HV.out⟩
theorem rrop_any (lo g : Nat) (L : List Nat) (bad : Bool) (w : World) (h : RrAt lo w g L bad) :
    Calls Try.prog 61 #[.pointer (some ⟨g, 0, none⟩)] w fun e w' => ∃ (o : OpT) (R : List Nat), e = .returned (.agg (opCells o).toArray) ∧ Rr1 lo w w' g R (bad || !okO L) ∧ (okO L = true → o = opV L ∧ R = opL L) := by
  by_cases k3 : c1 L = 3
  · exact rrop_3 lo g L bad w h k3
  by_cases k5 : c1 L = 5
  · exact rrop_5 lo g L bad w h k5
  by_cases k6 : c1 L = 6
  · exact rrop_6 lo g L bad w h k6
  by_cases k7 : c1 L = 7
  · exact rrop_7 lo g L bad w h k7
  by_cases k8 : c1 L = 8
  · exact rrop_8 lo g L bad w h k8
  exact rrop_0 lo g L bad w h k3 k5 k6 k7 k8
end Go.Proofs.Ytinfbaflkjghhaa
