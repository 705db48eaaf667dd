/- Several texts in one. -/
import Derived.Test.YtahbfdhjgnlmdaaZUF
import Derived.Test.YtahbfdhjgnlmdaaZUI
import Derived.Test.YtahbfdhjgnlmdaaZUG
import Derived.Test.YtahbfdhjgnlmdaaZUA
import Derived.Test.YtahbfdhjgnlmdaaZUB
import Derived.Test.YtahbfdhjgnlmdaaZUC
import Derived.Test.YtahbfdhjgnlmdaaZUE

/- The document's Clone. -/
namespace Go.Proofs.Ytahbfdhjgnlmdaa
open Go.RowKit
set_option linter.unusedSimpArgs false
set_option linter.unusedVariables false


theorem info_dartc : (Try.prog.info? 35).map (fun i => (i.zero, i.size, i.bytes)) = some (some (.agg #[.int .i64 0, .int .i64 0, .int .i64 0]), 3, 24) := by kernel_rfl
theorem own_lo0 {W : World} {B B' n : Nat} {e : TypeId} {size : Nat} {v : Value} {xs : List Value} (h : W.ownsRow B e size v n xs) (hB : B' ≤ B) : W.ownsRow B' e size v n xs := by
  refine ⟨h.1, ?_⟩
  rcases h.2 with hn | ⟨g, cap, cur, h1, hb, rest⟩
  · exact .inl hn
  · exact .inr ⟨g, cap, cur, h1, Nat.le_trans hB hb, rest⟩
/-- What is appended onto an empty row just made is a row of one's own. -/
theorem fresh_copy {P : Program} (W : World) (t ty e : TypeId) (i : TypeInfo) (z : Value) (size bytes : Nat) (ht : P.underlying t = some (.slice e)) (hi : P.info? e = some i) (hz : i.zero = some z) (hsize : i.size = size) (hby : i.bytes = bytes) (hzs : z.cells.size = size) (hs0 : 0 < size)
    (A : Option Addr) (m c : Nat) (news : List Value) (hr : RdS W W.heap.size size A m c news) (h1 : ∀ u ∈ news, u.oneCell' = true) (hm : m ≤ 1000000) (hb : bytes ≤ 100) :
    ∃ A' c' W', (Builtin.append_ #[t, t] ty #[.slice (some ⟨W.heap.size, 0, none⟩) 0 0, .slice A m c]).run P (W.alloc (.cells #[] e)) = .ok (.slice A' m c') W' ∧ W'.ownsRow W.heap.size e size (.slice A' m c') m news ∧ Below W.heap.size W W' := by
  have how : Ow W W.heap.size e size (.slice (some ⟨W.heap.size, 0, none⟩) 0 0) 0 [] (W.alloc (.cells #[] e)) := ⟨World.ownsRow_made W #[] 0 (Nat.le_refl _) (Nat.zero_le _) (by simp), bel_al (Below.refl _ W) _, Nat.le_refl _, by simp⟩
  have hsum : (0 + m) * bytes ≤ 140737488355328 := Nat.le_trans (Nat.mul_le_mul_left _ hb) (by omega)
  obtain ⟨v', W', hrun, ho, hb2, hg, -⟩ := Ow.app2 (P := P) t ty e i z size bytes W.heap.size ht hi hz hsize hby hzs hs0 _ _ _ how _ A m c news (hr.al (.cells #[] e)) h1 (by unfold maxLen; omega) hsum
  rw [Nat.zero_add, List.nil_append] at ho
  obtain ⟨A', c', rfl, -⟩ := ho.rds
  exact ⟨A', c', W', hrun, ho.own, ho.below⟩
/-- A diagram that is copied, vertex by vertex. -/
structure ClS (W : World) (lo : Nat) (A : Option Addr) (n c : Nat) (Ws : List VC) (B : Option Addr) (m k : Nat) (Es : List EC) : Prop where
  v : W.ownsRow lo 38 5 (.slice A n c) n (rowsV vC Ws)
  e : W.ownsRow lo 33 4 (.slice B m k) m (rowsV eC Es)
  r : ∀ x ∈ Ws, W.ownsRow lo 35 3 (.slice x.2.1.1 x.2.1.2.1 x.2.1.2.2.1) x.2.1.2.1 (dartsV x.2.1.2.2.2)
section
variable {W W' : World} {lo : Nat} {A : Option Addr} {n c : Nat} {Ws : List VC} {B : Option Addr} {m k : Nat} {Es : List EC}
theorem ClS.bl (h : ClS W lo A n c Ws B m k Es) (hb : Below W.heap.size W W') : ClS W' lo A n c Ws B m k Es := ⟨own_up h.v hb, own_up h.e hb, fun x hx => own_up (h.r x hx) hb⟩
theorem ClS.al (h : ClS W lo A n c Ws B m k Es) (o : Obj) : ClS (W.alloc o) lo A n c Ws B m k Es := h.bl (below1 W o)
theorem ClS.wr (h : ClS W lo A n c Ws B m k Es) : Wr W lo A n c Ws B m k Es := ⟨h.v, own_rds h.e, fun x hx => ⟨own_cap (h.r x hx), own_rds (h.r x hx)⟩⟩
/-- A write to a block of another type. -/
theorem ClS.far (h : ClS W lo A n c Ws B m k Es) {g i : Nat} {T : TypeId} {cs : List Value} (hw : Whole W g T cs) (h1 : T ≠ 38) (h2 : T ≠ 33) (h3 : T ≠ 35) (u : Value) : ClS (W.setCell ⟨g, i, none⟩ u) lo A n c Ws B m k Es :=
  ⟨own_cell_far h.v (own_ne h.v hw h1) u, own_cell_far h.e (own_ne h.e hw h2) u, fun x hx => own_cell_far (h.r x hx) (own_ne (h.r x hx) hw h3) u⟩
theorem ClS.far2 (h : ClS W lo A n c Ws B m k Es) {g i : Nat} {cs : List Value} (hw : Whole W g 38 cs) (hv : some g ≠ (Value.slice A n c).ownBlock) (u : Value) : ClS (W.setCell ⟨g, i, none⟩ u) lo A n c Ws B m k Es :=
  ⟨own_cell_far h.v hv u, own_cell_far h.e (own_ne h.e hw (by decide)) u, fun x hx => own_cell_far (h.r x hx) (own_ne (h.r x hx) hw (by decide)) u⟩
/-- A write to a block that is none of its. -/
theorem ClS.lo_ (h : ClS W lo A n c Ws B m k Es) {lo' : Nat} (hl : lo' ≤ lo) : ClS W lo' A n c Ws B m k Es := by
  have q : ∀ {e : TypeId} {s : Nat} {v : Value} {j : Nat} {xs : List Value}, W.ownsRow lo e s v j xs → W.ownsRow lo' e s v j xs := fun h => by
    refine ⟨h.1, ?_⟩
    rcases h.2 with hn | ⟨g, cap, cur, h1, hb, rest⟩
    · exact .inl hn
    · exact .inr ⟨g, cap, cur, h1, Nat.le_trans hl hb, rest⟩
  exact ⟨q h.v, q h.e, fun x hx => q (h.r x hx)⟩
/-- One vertex more. -/
theorem ClS.push {P : Program} (h : ClS W lo A n c Ws B m k Es) (x : VC) (hx : W.ownsRow lo 35 3 (.slice x.2.1.1 x.2.1.2.1 x.2.1.2.2.1) x.2.1.2.1 (dartsV x.2.1.2.2.2)) (t ty : TypeId) (i : TypeInfo) (z : Value) (ht : P.underlying t = some (.slice 38)) (hi : P.info? 38 = some i) (hz : i.zero = some z) (hsize : i.size = 5) (hby : i.bytes = 64) (hzs : z.cells.size = 5)
    (hn : n ≤ 1000000) (hlo : lo ≤ W.heap.size) (g : Nat) (hr : RdS W W.heap.size 5 (some ⟨g, 0, none⟩) 1 1 (vC x)) :
    ∃ A' c' W', (Builtin.append_ #[t, t] ty #[.slice A n c, .slice (some ⟨g, 0, none⟩) 1 1]).run P W = .ok (.slice A' (n + 1) c') W' ∧ ClS W' lo A' (n + 1) c' (Ws ++ [x]) B m k Es ∧ Below lo W W' ∧ W.grownBy W' (Value.slice A n c).ownBlock := by
  obtain ⟨v', W2, hrun, hown, hg, hn0, hb⟩ := run_append_own_at (P := P) W lo t ty 38 i z 5 64 ht hi hz hsize hby hzs (by decide) _ n _ h.v ⟨g, 0, none⟩ 1 1 _ hr.len (hr.cell _ rfl) (vC_one x) (by unfold maxLen; omega) (by omega) hlo
  have hk : ∀ k, (Value.slice A n c).ownBlock = some k → lo ≤ k := fun k hk => (h.v.lt k hk).1
  obtain ⟨A', c', rfl, _⟩ := RdS.of_own hown
  have e : rowsV vC Ws ++ vC x = rowsV vC (Ws ++ [x]) := by rw [rowsV_app]; simp [rowsV]
  rw [e] at hown
  have keep : ∀ {T : TypeId} {s : Nat} {v : Value} {j : Nat} {xs : List Value}, W.ownsRow lo T s v j xs → 38 ≠ T → W2.ownsRow lo T s v j xs := fun {T s v j xs} ho hT => ho.kept hg (by
    cases hv : v.ownBlock with
    | none => exact .inl rfl
    | some g => exact .inr fun q => own_two h.v ho hT q.symm hv)
  refine ⟨A', c', W2, hrun, ⟨hown, keep h.e (by decide), fun y hy => ?_⟩, (Below.refl lo W).grown hg hlo hk, hg⟩
  rcases List.mem_append.1 hy with hy | hy
  · exact keep (h.r y hy) (by decide)
  · obtain rfl := List.mem_singleton.1 hy
    exact keep hx (by decide)
end
set_option maxRecDepth 100000 in
set_option maxHeartbeats 4000000 in
theorem rclone_any (A : Option Addr) (n c : Nat) (Vs : List VC) (B : Option Addr) (m k : Nat) (Es : List EC) (w : World) (h : DgIn w A n c Vs B m k Es) (hn : n ≤ 1000000) (hm : m ≤ 1000000) (hr : ∀ x ∈ Vs, x.2.1.2.1 ≤ 1000000) :
    Calls Try.prog 28 #[.agg #[.slice A n c, .slice B m k]] w fun e w' => ∃ A' c' B' k' Ws, e = .returned (.agg #[.slice A' n c', .slice B' m k']) ∧ ClS w' w.heap.size A' n c' Ws B' m k' Es ∧ Ws.map vS = Vs.map vS ∧ Below w.heap.size w w' := by
  have HV := Lib.hid h.v
  have HE := Lib.hid h.e
  have HRg := Lib.hid h.r
  have Hlv := Lib.hid (h.v.rlen vC_len (by decide))
  have Hhr := Lib.hid hr
  obtain ⟨iV, hiv, hzv0, hzv1, hzv2⟩ := info_partsD info_vertex
  obtain ⟨iE, hie, hze0, hze1, hze2⟩ := info_partsD info_edge
  obtain ⟨iD, hid, hzd0, hzd1, hzd2⟩ := info_partsD info_dartc
  clear h hr
  go_enter Try.func28, Try.ntmps28
  go_upto_region 1 with fail
  have hx0 : Whole ((w.alloc (.cells #[.slice A n c, .slice B m k] 25)).alloc (.cells #[.slice none 0 0, .slice none 0 0] 25)) (w.heap.size) 25 [.slice A n c, .slice B m k] := ((Whole.new_ w 25 [.slice A n c, .slice B m k]).alloc (.cells #[.slice none 0 0, .slice none 0 0] 25))
  have hx1 : Whole ((w.alloc (.cells #[.slice A n c, .slice B m k] 25)).alloc (.cells #[.slice none 0 0, .slice none 0 0] 25)) (w.heap.size + 1) 25 [.slice none 0 0, .slice none 0 0] := (Whole.new2 (w := (w.alloc (.cells #[.slice A n c, .slice B m k] 25))) (by simp))
  have hbl : Below w.heap.size w ((w.alloc (.cells #[.slice A n c, .slice B m k] 25)).alloc (.cells #[.slice none 0 0, .slice none 0 0] 25)) := (bel_al (below1 w (.cells #[.slice A n c, .slice B m k] 25)) (.cells #[.slice none 0 0, .slice none 0 0] 25))
  have hsz : w.heap.size + 1 + 1 ≤ (((w.alloc (.cells #[.slice A n c, .slice B m k] 25)).alloc (.cells #[.slice none 0 0, .slice none 0 0] 25))).heap.size := by simp
  obtain ⟨W0, gW0⟩ : ∃ z, ((w.alloc (.cells #[.slice A n c, .slice B m k] 25)).alloc (.cells #[.slice none 0 0, .slice none 0 0] 25)) = z := ⟨_, rfl⟩
  rw [gW0] at hx0 hx1 hbl hsz
  obtain ⟨b1, gb1⟩ : ∃ z, w.heap.size + 1 = z := ⟨_, rfl⟩
  rw [gb1] at hx1
  obtain ⟨b0, gb0⟩ : ∃ z, w.heap.size = z := ⟨_, rfl⟩
  rw [gb0] at hx0
  have HX0 := Lib.hid hx0
  have HX1 := Lib.hid hx1
  have HB0 := Lib.hid hbl
  have HS0 := Lib.hid hsz
  have Gb0 := Lib.hid gb0
  have Lb0 : RowKit.Hid (w.heap.size ≤ b0) := Lib.hid (by omega)
  have Gb1 := Lib.hid gb1
  have Lb1 : RowKit.Hid (w.heap.size ≤ b1) := Lib.hid (by omega)
  have N01 : RowKit.Hid (b0 ≠ b1) := Lib.hid (by omega)
  rw [gW0, gb1, gb0]
  clear gW0 hbl hsz hx0 hx1 gb0 gb1
  obtain ⟨Be, ke, W1, hrun, hoe, hbe⟩ := fresh_copy (P := Try.prog) W0 23 23 33 iE _ 4 40 Try.underlying23 hie hze0 hze1 hze2 rfl (by decide) B m k _ (HE.out.bl HB0.out) (rowsV_one eC eC_one Es) hm (by decide)
  have c1 := (HX0.out.al (.cells #[] 33)).cell (i := 1) rfl
  go_wp2_with (first
    | (at_builtin
       refine wl_run (some 9) rfl (by rfl) (exec_append (by rfl) (by rfl) (by rfl) hrun) ?_))
  have HX01 := Lib.hid ((HX0.out.bl hbe).al (.cells #[.slice none 0 0, .slice Be m ke] 25))
  have HX11 := Lib.hid ((HX1.out.bl hbe).al (.cells #[.slice none 0 0, .slice Be m ke] 25))
  have HX31 := Lib.hid (Whole.new2 (w := W1) (t := 25) (cs := [.slice none 0 0, .slice Be m ke]) rfl)
  have HB1 := Lib.hid (bel_al (bel_bl HB0.out hbe) (.cells #[.slice none 0 0, .slice Be m ke] 25))
  have HC1 : RowKit.Hid (ClS (W1.alloc (.cells #[.slice none 0 0, .slice Be m ke] 25)) w.heap.size none 0 0 [] Be m ke Es) := Lib.hid ⟨World.ownsRow_nil _ _ _ _, own_up (own_lo0 hoe HB0.out.size) (below1 _ _), fun x hx => (by cases hx)⟩
  have Hb3 : RowKit.Hid (w.heap.size ≤ W1.heap.size) := Lib.hid (by have := HB0.out.size; have := hbe.size; omega)
  have Hn03 : RowKit.Hid (b0 ≠ W1.heap.size) := Lib.hid (by have := (HX0.out.bl hbe).lt; omega)
  have Hn13 : RowKit.Hid (b1 ≠ W1.heap.size) := Lib.hid (by have := (HX1.out.bl hbe).lt; omega)
  clear hrun hoe hbe c1
  obtain ⟨W2, gW2⟩ : ∃ z, W1.alloc (.cells #[.slice none 0 0, .slice Be m ke] 25) = z := ⟨_, rfl⟩
  obtain ⟨b3, gb3⟩ : ∃ z, W1.heap.size = z := ⟨_, rfl⟩
  rw [gW2] at HX01 HX11 HX31 HB1 HC1 ⊢
  rw [gb3] at HX31 Hb3 Hn03 Hn13 ⊢
  clear gW2 gb3 HX0 HX1 HB0 HS0
  go_loopw [4] (fun si wr => ∃ (j : Nat) (A2 : Option Addr) (c2 : Nat) (Ws : List VC), j ≤ n ∧ si = .int .i64 j ∧ RowKit.Hid (Below w.heap.size w wr) ∧ RowKit.Hid (Whole wr b0 25 [.slice A n c, .slice B m k]) ∧ RowKit.Hid (Whole wr b1 25 [.slice none 0 0, .slice none 0 0]) ∧ RowKit.Hid (Whole wr b3 25 [.slice A2 j c2, .slice Be m ke]) ∧ RowKit.Hid (ClS wr w.heap.size A2 j c2 Ws Be m ke Es) ∧ RowKit.Hid (Ws.map vS = (Vs.take j).map vS)) (fun si _ => n - (intOf si).toNat)
  case atStart => exact ⟨0, none, 0, [], by omega, rfl, HB1, HX01, HX11, HX31, HC1, Lib.hid rfl⟩
  case round =>
    clear HB1 HX01 HX11 HX31 HC1
    obtain ⟨j, A2, c2, Ws, hj, rfl, HB, HX0, HX1, HX3, HC, HM⟩ := hrel
    obtain ⟨wo, gwo⟩ : ∃ z, wr = z := ⟨_, rfl⟩
    rw [gwo] at HB HX0 HX1 HX3 HC ⊢
    clear gwo
    have cb := HX0.out.cell (i := 0) rfl
    by_cases hjn : j < n
    · obtain ⟨v, hx⟩ : ∃ v, Vs[j]? = some v := ⟨_, List.getElem?_eq_getElem (by have := Hlv.out; omega)⟩
      have hMn : (Vs.take (j + 1)).map vS = (Vs.take j).map vS ++ [vS v] := by
        rw [List.take_add_one, hx]
        simp
      have hvm := List.mem_of_getElem? hx
      have hrg := HRg.out v hvm
      have hrn := Hhr.out v hvm
      obtain ⟨bb, off, rfl, hbB, hpl⟩ := HV.out.place vC_len (by decide) (by omega)
      have hbw := HB.out
      have q0 := hpl j _ hx 0 _ rfl
      have q1 := hpl j _ hx 1 _ rfl
      have q2 := hpl j _ hx 2 _ rfl
      have q3 := hpl j _ hx 3 _ rfl
      have q4 := hpl j _ hx 4 _ rfl
      simp only [Addr.add_lit, Nat.add_zero] at q0 q1 q2 q3 q4
      have l0 := (hbw.cell (p := ⟨bb, off + j * 5, none⟩) hbB).trans q0
      have l1 := (hbw.cell (p := ⟨bb, off + j * 5 + 1, none⟩) hbB).trans q1
      have l2 := (hbw.cell (p := ⟨bb, off + j * 5 + 2, none⟩) hbB).trans q2
      have l3 := (hbw.cell (p := ⟨bb, off + j * 5 + 3, none⟩) hbB).trans q3
      have l4 := (hbw.cell (p := ⟨bb, off + j * 5 + 4, none⟩) hbB).trans q4
      clear hbw q0 q1 q2 q3 q4
      obtain ⟨⟨i1, i2⟩, ⟨rA, rn, rc, rL⟩, lb, at_⟩ := v
      replace hrn : rn ≤ 1000000 := hrn
      have HR : RowKit.Hid (RdS w w.heap.size 3 rA rn rc (dartsV rL)) := Lib.hid hrg.2
      have HMn := Lib.hid hMn
      clear hx hMn hvm hrg hbB hpl
      go_upto_region 6 with fail
      clear cb l0 l1 l2 l3 l4
      have HB1 := Lib.hid (bel_al HB.out (.cells #[.int .i64 i1, .int .i64 i2, .slice rA rn rc, .string lb, .int .i64 at_] 38))
      have HX01 := Lib.hid (HX0.out.al (.cells #[.int .i64 i1, .int .i64 i2, .slice rA rn rc, .string lb, .int .i64 at_] 38))
      have HX11 := Lib.hid (HX1.out.al (.cells #[.int .i64 i1, .int .i64 i2, .slice rA rn rc, .string lb, .int .i64 at_] 38))
      have HX31 := Lib.hid (HX3.out.al (.cells #[.int .i64 i1, .int .i64 i2, .slice rA rn rc, .string lb, .int .i64 at_] 38))
      have HC1 := Lib.hid (HC.out.al (.cells #[.int .i64 i1, .int .i64 i2, .slice rA rn rc, .string lb, .int .i64 at_] 38))
      have HY1 := Lib.hid (Whole.new2 (w := wo) (t := 38) (cs := [.int .i64 i1, .int .i64 i2, .slice rA rn rc, .string lb, .int .i64 at_]) rfl)
      have HLy : RowKit.Hid (w.heap.size ≤ wo.heap.size) := Lib.hid HB.out.size
      have Hnv : RowKit.Hid (some wo.heap.size ≠ (Value.slice A2 j c2).ownBlock) := Lib.hid (fun e => by have := (HC.out.v.lt _ e.symm).2; omega)
      obtain ⟨W3, gW3⟩ : ∃ z, wo.alloc (.cells #[.int .i64 i1, .int .i64 i2, .slice rA rn rc, .string lb, .int .i64 at_] 38) = z := ⟨_, rfl⟩
      obtain ⟨b5, gb5⟩ : ∃ z, wo.heap.size = z := ⟨_, rfl⟩
      rw [gW3] at HB1 HX01 HX11 HX31 HC1 HY1 ⊢
      rw [gb5] at HY1 HLy Hnv ⊢
      clear gW3 gb5 HB HX0 HX1 HX3 HC
      obtain ⟨A8, c8, W4, hrun, hor, hbr⟩ := fresh_copy (P := Try.prog) W3 36 36 35 iD _ 3 24 Try.underlying36 hid hzd0 hzd1 hzd2 rfl (by decide) rA rn rc _ (HR.out.up HB1.out HB1.out.size) (dartsV_one rL) hrn (by decide)
      have d2 := (HY1.out.al (.cells #[] 35)).cell (i := 2) rfl
      have e2 := (HY1.out.bl hbr).cell (i := 2) rfl
      have f2 := (HY1.out.bl hbr).free 2
      go_upto_region 7 with (first
        | (at_builtin
           refine wl_run (some 26) rfl (by rfl) (exec_append (by rfl) (by rfl) (by rfl) hrun) ?_))
      clear d2 e2 f2
      have HY4 := Lib.hid (HY1.out.bl hbr)
      have HX04 := Lib.hid (HX01.out.bl hbr)
      have HX14 := Lib.hid (HX11.out.bl hbr)
      have HX34 := Lib.hid (HX31.out.bl hbr)
      have HB4 := Lib.hid (bel_bl HB1.out hbr)
      have HC4 := Lib.hid (HC1.out.bl hbr)
      have HO4 := Lib.hid (own_lo0 hor HB1.out.size)
      clear hrun hor hbr HB1 HX01 HX11 HX31 HC1 HY1
      have HY5 := Lib.hid (HY4.out.set_ 2 (.slice A8 rn c8))
      have HX05 := Lib.hid (HX04.out.set_far' (i := 2) (HX04.out.ne_ HY4.out (by decide)) (.slice A8 rn c8))
      have HX15 := Lib.hid (HX14.out.set_far' (i := 2) (HX14.out.ne_ HY4.out (by decide)) (.slice A8 rn c8))
      have HX35 := Lib.hid (HX34.out.set_far' (i := 2) (HX34.out.ne_ HY4.out (by decide)) (.slice A8 rn c8))
      have HB5 := Lib.hid (HB4.out.setCell (p := ⟨b5, 2, none⟩) HLy.out (.slice A8 rn c8))
      have HC5 := Lib.hid (HC4.out.far2 (i := 2) HY4.out Hnv.out (.slice A8 rn c8))
      have HO5 := Lib.hid (own_cell_far (i := 2) HO4.out (own_ne HO4.out HY4.out (by decide)) (.slice A8 rn c8))
      obtain ⟨W5, gW5⟩ : ∃ z, W4.setCell ⟨b5, 2, none⟩ (.slice A8 rn c8) = z := ⟨_, rfl⟩
      rw [gW5] at HY5 HX05 HX15 HX35 HB5 HC5 HO5 ⊢
      clear gW5 HY4 HX04 HX14 HX34 HB4 HC4 HO4
      replace HY5 : RowKit.Hid (Whole W5 b5 38 (vC ((i1, i2), (A8, rn, c8, rL), lb, at_))) := HY5
      have c3 := HX35.out.cell (i := 0) rfl
      refine wp_region_lit ?_
      refine wl_read (v := ?_) (some 28) rfl (by rfl) ?_ ?_
      rotate_left
      · go_simp; (try with_reducible rfl)
      simp only [Act.put, List.setIfInBounds_toArray, List.set_cons_zero, List.set_cons_succ]
      refine wl_read (v := ?_) (some 29) rfl (by rfl) ?_ ?_
      rotate_left
      · go_simp; (try with_reducible rfl)
      simp only [Act.put, List.setIfInBounds_toArray, List.set_cons_zero, List.set_cons_succ]
      refine wl_load (some 30) rfl (by rfl) 38 (.tmp 5) rfl (b5) rfl 38 (vC ((i1, i2), (A8, rn, c8, rL), lb, at_)) _ HY5.out Try.underlying38 rfl (by kernel_rfl) ?_
      simp only [Act.put, List.setIfInBounds_toArray, List.set_cons_zero, List.set_cons_succ]
      clear c3
      refine wl_buildSlice (some 31) rfl (by rfl) 22 38 1 #[(0, .tmp 30)] (by rfl) Try.underlying22 (vC ((i1, i2), (A8, rn, c8, rL), lb, at_)).toArray (by kernel_rfl) ?_
      simp only [Act.put, List.setIfInBounds_toArray, List.set_cons_zero, List.set_cons_succ]
      obtain ⟨A9, c9, W6, hrun, hC6, hb6, hg6⟩ := (HC5.out.al (.cells (vC ((i1, i2), (A8, rn, c8, rL), lb, at_)).toArray 38)).push (P := Try.prog) ((i1, i2), (A8, rn, c8, rL), lb, at_) (own_up HO5.out (below1 _ _)) 22 22 iV _ Try.underlying22 hiv hzv0 hzv1 hzv2 rfl (by omega) (by have := HB5.out.size; simp; omega) W5.heap.size (RdS.of_whole (Whole.new2 rfl) rfl)
      refine wl_run (some 32) rfl (by rfl) (exec_append (by rfl) (by rfl) (by rfl) hrun) ?_
      simp only [Act.put, List.setIfInBounds_toArray, List.set_cons_zero, List.set_cons_succ]
      have n0 := own_ne HC5.out.v HX05.out (by decide)
      have n1 := own_ne HC5.out.v HX15.out (by decide)
      have n3 := own_ne HC5.out.v HX35.out (by decide)
      have HX06 := Lib.hid ((HX05.out.al (.cells (vC ((i1, i2), (A8, rn, c8, rL), lb, at_)).toArray 38)).grown hg6 n0)
      have HX16 := Lib.hid ((HX15.out.al (.cells (vC ((i1, i2), (A8, rn, c8, rL), lb, at_)).toArray 38)).grown hg6 n1)
      have HX36 := Lib.hid ((HX35.out.al (.cells (vC ((i1, i2), (A8, rn, c8, rL), lb, at_)).toArray 38)).grown hg6 n3)
      have HB6 : RowKit.Hid (Below w.heap.size w W6) := Lib.hid ((bel_al HB5.out (.cells (vC ((i1, i2), (A8, rn, c8, rL), lb, at_)).toArray 38)).trans hb6)
      have HC6 := Lib.hid hC6
      clear hrun hC6 hb6 hg6 n0 n1 n3 HY5 HX05 HX15 HX35 HB5 HC5 HO5
      have c3 := HX36.out.cell (i := 0) rfl
      have f3 := HX36.out.free 0
      have HX07 := Lib.hid (HX06.out.set_far' (i := 0) Hn03.out (.slice A9 (j + 1) c9))
      have HX17 := Lib.hid (HX16.out.set_far' (i := 0) Hn13.out (.slice A9 (j + 1) c9))
      have HX37 := Lib.hid (HX36.out.set_ 0 (.slice A9 (j + 1) c9))
      have HB7 := Lib.hid (HB6.out.setCell (p := ⟨b3, 0, none⟩) Hb3.out (.slice A9 (j + 1) c9))
      have HC7 := Lib.hid (HC6.out.far (i := 0) HX36.out (by decide) (by decide) (by decide) (.slice A9 (j + 1) c9))
      have HM7 : RowKit.Hid ((Ws ++ [((i1, i2), (A8, rn, c8, rL), lb, at_)]).map vS = (Vs.take (j + 1)).map vS) := Lib.hid (by rw [HMn.out, List.map_append, HM.out]; rfl)
      clear HM HMn
      go_wp2
      go_roundw
      case rel => exact ⟨j + 1, A9, c9, _, by omega, by go_num, HB7, HX07, HX17, HX37, HC7, HM7⟩
      case measure => simp [intOf]; omega
    · obtain rfl : n = j := by omega
      have hM := HM.out
      rw [List.take_of_length_le (by have := Hlv.out; omega)] at hM
      have hx1 := (HX1.out.set_ 0 (.slice A2 n c2)).set_ 1 (.slice Be m ke)
      have hc1 := (HC.out.far (i := 0) HX1.out (by decide) (by decide) (by decide) (.slice A2 n c2)).far (i := 1) (HX1.out.set_ 0 (.slice A2 n c2)) (by decide) (by decide) (by decide) (.slice Be m ke)
      have hb1 := (HB.out.setCell (p := ⟨b1, 0, none⟩) Lb1.out (.slice A2 n c2)).setCell (p := ⟨b1, 1, none⟩) Lb1.out (.slice Be m ke)
      have e0 := HX3.out.cell (i := 0) rfl
      have e1 := HX3.out.cell (i := 1) rfl
      have f0 := HX1.out.free 0
      have f1 := HX1.out.free 1
      have k0 := HX1.out.cell (i := 0) rfl
      have k1 := HX1.out.cell (i := 1) rfl
      have Hpost := Lib.hid (show ∃ A' c' B' k' Us, (Ending.returned (.agg #[.slice A2 n c2, .slice Be m ke])) = .returned (.agg #[.slice A' n c', .slice B' m k']) ∧ ClS _ w.heap.size A' n c' Us B' m k' Es ∧ Us.map vS = Vs.map vS ∧ Below w.heap.size w _ from ⟨A2, c2, Be, ke, Ws, rfl, hc1, hM, hb1⟩)
      have Hx1 := Lib.hid hx1
      clear hx1 hM hc1 hb1 HC HM HB HX0 HX1 HX3
      go_wp2
      exact ret_whole rfl b1 rfl Hx1.out Try.underlying25 rfl (by kernel_rfl) rfl Hpost.out
end Go.Proofs.Ytahbfdhjgnlmdaa

/- A diagram whose vertices and edges are of one's own; its rings turned the other way round, in numbers. -/
namespace Go.Proofs.Ytahbfdhjgnlmdaa
open Go.RowKit
set_option linter.unusedSimpArgs false
set_option linter.unusedVariables false

structure Wro (W : World) (lo : Nat) (A : Option Addr) (n c : Nat) (Us : List VC) (B : Option Addr) (m k : Nat) (Es : List EC) : Prop where
  v : W.ownsRow lo 38 5 (.slice A n c) n (rowsV vC Us)
  e : W.ownsRow lo 33 4 (.slice B m k) m (rowsV eC Es)
  r : ∀ x ∈ Us, RgOk W x.2.1
theorem no_str_d {L : List D} {s : ByteArray} : ¬ Value.string s ∈ dartsV L := fun h => by
  rw [dartsV_rows] at h
  obtain ⟨x, _, hx⟩ := rowsV_mem h
  simp [dC] at hx
section
variable {W W' : World} {lo : Nat} {A : Option Addr} {n c : Nat} {Us : List VC} {B : Option Addr} {m k : Nat} {Es : List EC}
theorem ClS.wro (h : ClS W lo A n c Us B m k Es) : Wro W lo A n c Us B m k Es := ⟨h.v, h.e, fun x hx => ⟨own_cap (h.r x hx), own_rds (h.r x hx)⟩⟩
theorem Wro.dg (h : Wro W lo A n c Us B m k Es) : DgIn W A n c Us B m k Es := ⟨own_rds h.v, own_rds h.e, h.r⟩
theorem Wro.bl (h : Wro W lo A n c Us B m k Es) (hb : Below W.heap.size W W') : Wro W' lo A n c Us B m k Es := ⟨own_up h.v hb, own_up h.e hb, fun x hx => (h.r x hx).bl hb⟩
theorem Wro.al (h : Wro W lo A n c Us B m k Es) (o : Obj) : Wro (W.alloc o) lo A n c Us B m k Es := h.bl (below1 W o)
theorem Wro.dr (h : Wro W lo A n c Us B m k Es) : Wro W.drew lo A n c Us B m k Es := h.bl ((Below.refl _ _).drew)
theorem Wro.put (h : Wro W lo A n c Us B m k Es) {j : Nat} {x : VC} (hx : Us[j]? = some x) (hj : j < n) (R : Rg) (hR : RgOk W R) :
    ∃ g, A = some ⟨g, 0, none⟩ ∧ lo ≤ g ∧ (∃ cs, Whole W g 38 cs) ∧ W.cell? ⟨g, j * 5 + 2, none⟩ = some (.slice x.2.1.1 x.2.1.2.1 x.2.1.2.2.1) ∧ W.frozen? ⟨g, j * 5 + 2, none⟩ = false ∧
      Wro (W.setCell ⟨g, j * 5 + 2, none⟩ (.slice R.1 R.2.1 R.2.2.1)) lo A n c (Us.set j (x.1, R, x.2.2)) B m k Es := by
  obtain ⟨g, junk, e, hlo, hw, hc, hf, ho⟩ := own_poke (i := 2) (y := (x.1, R, x.2.2)) (u := .slice R.1 R.2.1 R.2.2.1) vC_len h.v hx hj (by omega) rfl
  have hc2 : W.cell? ⟨g, j * 5 + 2, none⟩ = some (.slice x.2.1.1 x.2.1.2.1 x.2.1.2.2.1) := hc.trans rfl
  refine ⟨g, e, hlo, ⟨_, hw⟩, hc2, hf, ho, own_cell_far h.e (own_ne h.e hw (by decide)) _, fun y hy => rg_poke ?_ hc2 _⟩
  rcases List.mem_or_eq_of_mem_set hy with hy | rfl
  · exact h.r y hy
  · exact hR
theorem Wro.lab (h : Wro W lo A n c Us B m k Es) {j : Nat} {x : VC} (hx : Us[j]? = some x) (hj : j < n) (s : ByteArray) :
    ∃ g, A = some ⟨g, 0, none⟩ ∧ lo ≤ g ∧ (∃ cs, Whole W g 38 cs) ∧ W.cell? ⟨g, j * 5 + 3, none⟩ = some (.string x.2.2.1) ∧ W.frozen? ⟨g, j * 5 + 3, none⟩ = false ∧
      Wro (W.setCell ⟨g, j * 5 + 3, none⟩ (.string s)) lo A n c (Us.set j (setLab x s)) B m k Es := by
  obtain ⟨g, junk, e, hlo, hw, hc, hf, ho⟩ := own_poke (i := 3) (y := setLab x s) (u := .string s) vC_len h.v hx hj (by omega) rfl
  have hc2 : W.cell? ⟨g, j * 5 + 3, none⟩ = some (.string x.2.2.1) := hc.trans rfl
  refine ⟨g, e, hlo, ⟨_, hw⟩, hc2, hf, ho, own_cell_far h.e (own_ne h.e hw (by decide)) _, fun y hy => ?_⟩
  have key : ∀ z, RgOk W z → RgOk (W.setCell ⟨g, j * 5 + 3, none⟩ (.string s)) z := fun z hz => ⟨hz.1, by rw [size_setCell]; exact rds_poke hz.2 hc2 no_str_d _⟩
  rcases List.mem_or_eq_of_mem_set hy with hy | rfl
  · exact key _ (h.r y hy)
  · exact key _ (h.r x (List.mem_of_getElem? hx))
end
/-- What is written to a block of vertices of one's own leaves other diagrams as they were, of which none is there. -/
theorem DgIn.vfar {W : World} {A B : Option Addr} {n c m k : Nat} {Vs : List VC} {Es : List EC} (h : DgIn W A n c Vs B m k Es) {lo g i : Nat} (hg : lo ≤ g) (hb : ∀ W', (∀ j, j < lo → W'.heap[j]? = W.heap[j]?) → W.heap.size ≤ W'.heap.size → DgIn W' A n c Vs B m k Es) (u : Value) : DgIn (W.setCell ⟨g, i, none⟩ u) A n c Vs B m k Es :=
  hb _ (fun j hj => Below.heap_setCell _ _ _ _ (by show j ≠ g; omega)) (by rw [size_setCell]; exact Nat.le_refl _)
/-- A ring the other way round. -/
def bkL (L : List D) : List D := turnD L.reverse
theorem bkL_mem (L : List D) (x : D) : x ∈ bkL L ↔ x ∈ L := by
  unfold bkL
  rw [(turn_perm _).mem_iff, List.mem_reverse]
theorem bkL_len (L : List D) : (bkL L).length = L.length := by
  unfold bkL
  rw [turnD_len, List.length_reverse]
theorem back_step {L : List D} {p : Nat} {x : D} (h : L[p]? = some x) : (L.drop p).reverse = (L.drop (p + 1)).reverse ++ [x] := by
  obtain ⟨hp, e⟩ := List.getElem?_eq_some_iff.1 h
  rw [List.drop_eq_getElem_cons hp, e, List.reverse_cons]
end Go.Proofs.Ytahbfdhjgnlmdaa

/- pack.TakeNum. -/
namespace Go.Proofs.Ytahbfdhjgnlmdaa
open Go.RowKit
set_option linter.unusedSimpArgs false
set_option linter.unusedVariables false

end Go.Proofs.Ytahbfdhjgnlmdaa

/- The reader: next. -/
namespace Go.Proofs.Ytahbfdhjgnlmdaa
open Go.RowKit
set_option linter.unusedSimpArgs false
set_option linter.unusedVariables false

theorem kept_grow {S : Nat → Prop} {w w' : World} {r : Option Nat} (hg : w.grownBy w' r) (hS : ∀ i, some i = r → S i) : Kept S w w' := ⟨hg.os, hg.tape, hg.output, hg.size, fun i hi hn => hg.block i hi (fun e => hn (hS i e))⟩
theorem ext_grown {w w1 w2 : World} {q : Nat} (h : Ext w w1) (hg : w1.grownBy w2 (some q)) (hq : w.heap.size ≤ q) : Ext w w2 := Below.grown h hg h.size (fun k e => by obtain rfl := Option.some.inj e; exact hq)
theorem grown_ext {w w1 w2 : World} {r : Option Nat} (h : w.grownBy w1 r) (hb : Ext w1 w2) : w.grownBy w2 r := ⟨hb.os.trans h.os, hb.tape.trans h.tape, hb.output.trans h.output, Nat.le_trans h.size hb.size, fun k hk hne => (hb.block k (Nat.lt_of_lt_of_le hk h.size)).trans (h.block k hk hne)⟩
theorem ext_grow {w w1 w2 : World} {r : Option Nat} (hb : Ext w w1) (h : w1.grownBy w2 r) : w.grownBy w2 r := ⟨h.os.trans hb.os, h.tape.trans hb.tape, h.output.trans hb.output, Nat.le_trans hb.size h.size, fun k hk hne => (h.block k (Nat.lt_of_lt_of_le hk hb.size) hne).trans (hb.block k hk)⟩
theorem grown_two {w w1 w2 : World} {r : Option Nat} (h : w.grownBy w1 r) (h2 : w1.grownBy w2 r) : w.grownBy w2 r := ⟨h2.os.trans h.os, h2.tape.trans h.tape, h2.output.trans h.output, Nat.le_trans h.size h2.size, fun k hk hne => (h2.block k (Nat.lt_of_lt_of_le hk h.size) hne).trans (h.block k hk hne)⟩
theorem grown_set {w w1 : World} (hb : Ext w w1) (g i : Nat) (u : Value) : w.grownBy (w1.setCell ⟨g, i, none⟩ u) (some g) := ext_grow hb ⟨rfl, rfl, rfl, by simp, fun k _ hk => heap_setCell_other w1 ⟨g, i, none⟩ k u (fun e => hk (by simp [e]))⟩
theorem rds_far8 {w : World} {B n c g : Nat} {A : Option Addr} {L : List Nat} {v : Value} (h : RdS w B 1 A n c (rowsV f8 L)) (hw : w.cell? ⟨g, 0, none⟩ = some v) (hv : ∀ b : Nat, v ≠ .int .u8 (b : Int)) (u : Value) : RdS (w.setCell ⟨g, 0, none⟩ u) B 1 A n c (rowsV f8 L) :=
  rds_poke h hw (fun q => by
    rw [rowsV_map8] at q
    obtain ⟨b, -, e⟩ := List.mem_map.1 q
    exact hv b e.symm) u
theorem nx_split (k : Nat) (L : List Nat) : nx k L = L.take k ++ List.replicate (k - L.length) 0 := by
  unfold nx
  rw [List.take_append, List.take_replicate]
  congr 2
  omega
/-- Bytes copied into a row of noughts. -/
theorem copy_sl (ty : TypeId) {w : World} {g k : Nat} {A : Option Addr} {n c : Nat} {L : List Nat} (hw : Whole w g 5 (rowsV f8 (List.replicate k 0))) (h : RdS w w.heap.size 1 A n c (rowsV f8 L)) :
    ∃ w', (Builtin.copy_ #[43, 43] ty #[.slice (some ⟨g, 0, none⟩) k k, .slice A n c]).run Try.prog w = .ok (.int .i64 ((min n k : Nat) : Int)) w' ∧ Whole w' g 5 (rowsV f8 (nx k L)) ∧ w.grownBy w' (some g) := by
  have hl := h.rlen f8_len (by decide)
  by_cases h0 : min n k = 0
  · have hr := run_copy_none (P := Try.prog) w 43 43 ty 5 (some ⟨g, 0, none⟩) A k k n c Try.underlying43 (by kernel_rfl) h0
    have e : nx k L = List.replicate k 0 := by
      rw [nx_split]
      by_cases hk : k = 0
      · subst hk; simp
      · obtain rfl : L = [] := List.eq_nil_of_length_eq_zero (by omega)
        simp
    exact ⟨w, by rw [hr, h0]; rfl, by rw [e]; exact hw, ⟨rfl, rfl, rfl, Nat.le_refl _, fun _ _ _ => rfl⟩⟩
  · obtain ⟨a, rfl, hs⟩ := h.src (by rw [rows8_len]; omega)
    have hcl : (rowsV f8 (L.take k)).length = min n k := by rw [rows8_len, List.length_take, hl]; omega
    have hr := run_copy_row (P := Try.prog) w 43 43 ty 5 g 0 k k a n c (rowsV f8 (List.replicate k 0)).toArray 5 (rowsV f8 (L.take k)) Try.underlying43 (by kernel_rfl) hw hcl
      (fun j v hj => hs j v (by
        rw [rowsV_map8, List.map_take, List.getElem?_take] at hj
        rw [rowsV_map8]
        split at hj
        · exact hj
        · cases hj)) (by simp [rows8_len]; omega) (f8_all _)
    have e : ((rowsV f8 (List.replicate k 0)).toArray.toList.take 0 ++ rowsV f8 (L.take k) ++ (rowsV f8 (List.replicate k 0)).toArray.toList.drop (0 + (rowsV f8 (L.take k)).length)).toArray = (rowsV f8 (nx k L)).toArray := by
      have e2 : (rowsV f8 (List.replicate k 0)).drop (min n k) = rowsV f8 (List.replicate (k - L.length) 0) := by
        rw [rowsV_map8, rowsV_map8, List.map_replicate, List.map_replicate, List.drop_replicate, hl, show k - min n k = k - n by omega]
      rw [List.take_zero, List.nil_append, Nat.zero_add, hcl, nx_split, rows8_app, show (rowsV f8 (List.replicate k 0)).toArray.toList = rowsV f8 (List.replicate k 0) from rfl, e2]
    rw [e, hcl] at hr
    exact ⟨_, hr, Whole.row hw _, ⟨rfl, rfl, rfl, by simp [World.setRow], fun i _ hk => setRow_other w g i _ (fun e => hk (by rw [e]))⟩⟩
theorem drop_min (n k : Nat) (L : List Nat) (h : L.length = n) : L.drop (min n k) = L.drop k := by
  by_cases hk : k ≤ n
  · rw [Nat.min_eq_right hk]
  · rw [Nat.min_eq_left (by omega), List.drop_eq_nil_of_le (by omega), List.drop_eq_nil_of_le (by omega)]
/-- What a call at the reader leaves: what is left; all else is as it was. -/
def LeftAt (lo : Nat) (w w' : World) (g : Nat) (R : List Nat) : Prop := ∃ A n c, Whole w' g 89 [.slice A n c] ∧ RdS w' w'.heap.size 1 A n c (rowsV f8 R) ∧ w.grownBy w' (some g) ∧ ∀ a, A = some a → 0 < n → a.block < lo
set_option maxRecDepth 100000 in
set_option maxHeartbeats 4000000 in
theorem next_any (lo g k : Nat) (A : Option Addr) (n c : Nat) (L : List Nat) (w : World) (hw : Whole w g 89 [.slice A n c]) (h : RdS w w.heap.size 1 A n c (rowsV f8 L)) (hk : k ≤ 1000) (hn : n ≤ 1000000) (hlo : ∀ a, A = some a → 0 < n → a.block < lo) :
    Calls Try.prog 76 #[.pointer (some ⟨g, 0, none⟩), .int .i64 (k : Int)] w fun e w' => ∃ q, e = .returned (.slice (some ⟨q, 0, none⟩) k k) ∧ w.heap.size ≤ q ∧ Whole w' q 5 (rowsV f8 (nx k L)) ∧ LeftAt lo w w' g (L.drop k) := by
  have HW := Lib.hid hw
  have HR := Lib.hid h
  have Hl : RowKit.Hid (L.length = n) := Lib.hid (h.rlen f8_len (by decide))
  have hmk := make_u8 k (by omega)
  have Hlo := Lib.hid hlo
  have hnc := h.le
  have Hnc := Lib.hid hnc
  have HG : RowKit.Hid (g < w.heap.size) := Lib.hid hw.lt
  obtain ⟨Z, gZ⟩ : ∃ Z, rowsV f8 (List.replicate k 0) = Z := ⟨_, rfl⟩
  rw [gZ] at hmk
  have HZ1 : RowKit.Hid (Whole (w.alloc (.cells Z.toArray 5)) w.heap.size 5 (rowsV f8 (List.replicate k 0))) := Lib.hid (by rw [gZ]; exact Whole.new_ _ _ _)
  clear hw h gZ hlo hnc
  go_enter Try.func76, Try.ntmps76
  go_upto_region 2 with fail
  have HW1 := Lib.hid (HW.out.al (.cells Z.toArray 5))
  have HR1 := Lib.hid (HR.out.al (.cells Z.toArray 5))
  have HE1 : RowKit.Hid (Ext w (w.alloc (.cells Z.toArray 5))) := Lib.hid (below1 w _)
  obtain ⟨w1, gw1⟩ : ∃ z, w.alloc (.cells Z.toArray 5) = z := ⟨_, rfl⟩
  obtain ⟨q, gq⟩ : ∃ z, w.heap.size = z := ⟨_, rfl⟩
  rw [gw1] at HZ1 HW1 HR1 HE1 ⊢
  rw [gq] at HZ1 ⊢
  have Gq := Lib.hid gq
  have Hgq : RowKit.Hid (g ≠ q) := Lib.hid (by have := HG.out; omega)
  clear hmk gw1 gq
  have HDr : RowKit.Hid (Ext w1 w1.drew) := Lib.hid (below_drewN w1.heap.size w1 1)
  have ld0 : ∀ w', Kept (fun i => i = q) w1.drew w' → w'.cell? ⟨g, 0, none⟩ = some (.slice A n c) := fun w' h => h.cell (HW1.out.dr.cell (i := 0) rfl) Hgq.out
  obtain ⟨A1, gA1⟩ : ∃ z, (if c = min n k then A else A.map (·.add (min n k * 1))) = z := ⟨_, rfl⟩
  have HA1 := Lib.hid gA1
  clear gA1
  refine wp_region_tail (fun i => i = q) [14] (by kernel_rfl) ?_
  apply wpT_next 0 (some 8) (by kernel_rfl)
  · simp only [List.getElem?_toArray, List.getElem?_cons_succ, List.getElem?_cons_zero]; exact rfl
  · rfl
  · kernel_rfl
  · kernel_rfl
  · kernel_rfl
  · exact fun _ _ _ _ h => h
  apply Exists.intro
  apply And.intro
  · apply yr_run; rfl; intro w' hw'; go_simp; (try with_reducible rfl)
  simp only [Act.put, List.setIfInBounds_toArray, List.set_cons_zero, List.set_cons_succ]
  apply wpT_next 1 (some 9) (by kernel_rfl)
  · simp only [List.getElem?_toArray, List.getElem?_cons_succ, List.getElem?_cons_zero]; exact rfl
  · rfl
  · kernel_rfl
  · kernel_rfl
  · kernel_rfl
  · exact fun _ _ _ _ h => h
  apply Exists.intro
  apply And.intro
  · apply yr_run; rfl; intro w' hw'; go_simp; (try with_reducible rfl)
  simp only [Act.put, List.setIfInBounds_toArray, List.set_cons_zero, List.set_cons_succ]
  apply wpT_next 2 (some 10) (by kernel_rfl)
  · simp only [List.getElem?_toArray, List.getElem?_cons_succ, List.getElem?_cons_zero]; exact rfl
  · rfl
  · kernel_rfl
  · kernel_rfl
  · kernel_rfl
  · exact fun _ _ _ _ h => h
  apply Exists.intro
  apply And.intro
  · apply yr_run; rfl; intro w' hw'; go_simp; (try with_reducible rfl)
  simp only [Act.put, List.setIfInBounds_toArray, List.set_cons_zero, List.set_cons_succ]
  apply wpT_next 3 (some 11) (by kernel_rfl)
  · simp only [List.getElem?_toArray, List.getElem?_cons_succ, List.getElem?_cons_zero]; exact rfl
  · rfl
  · kernel_rfl
  · kernel_rfl
  · kernel_rfl
  · exact fun _ _ _ _ h => h
  apply Exists.intro
  apply And.intro
  · apply yr_run; rfl; intro w' hw'; go_simp; (try with_reducible rfl)
  simp only [Act.put, List.setIfInBounds_toArray, List.set_cons_zero, List.set_cons_succ]
  apply wpT_next 4 (some 12) (by kernel_rfl)
  · simp only [List.getElem?_toArray, List.getElem?_cons_succ, List.getElem?_cons_zero]; exact rfl
  · rfl
  · kernel_rfl
  · kernel_rfl
  · kernel_rfl
  · exact fun _ _ _ _ h => h
  apply Exists.intro
  apply And.intro
  · apply yr_run; rfl; intro w' hw'; go_simp; (try with_reducible rfl)
  simp only [Act.put, List.setIfInBounds_toArray, List.set_cons_zero, List.set_cons_succ]
  apply wpT_next 5 (some 13) (by kernel_rfl)
  · simp only [List.getElem?_toArray, List.getElem?_cons_succ, List.getElem?_cons_zero]; exact rfl
  · rfl
  · kernel_rfl
  · kernel_rfl
  · kernel_rfl
  · exact fun _ _ _ _ h => h
  apply Exists.intro
  apply And.intro
  · apply yr_run; rfl; intro w' hw'; go_simp; (try with_reducible rfl)
  simp only [Act.put, List.setIfInBounds_toArray, List.set_cons_zero, List.set_cons_succ]
  apply wpT_next 6 (some 14) (by kernel_rfl)
  · simp only [List.getElem?_toArray, List.getElem?_cons_succ, List.getElem?_cons_zero]; exact rfl
  · rfl
  · kernel_rfl
  · kernel_rfl
  · kernel_rfl
  · exact fun _ _ _ _ h => h
  apply Exists.intro
  apply And.intro
  · apply yr_run; rfl; intro w' hw'; go_simp; (try with_reducible rfl)
  simp only [Act.put, List.setIfInBounds_toArray, List.set_cons_zero, List.set_cons_succ]
  apply wpT_next 7 (some 15) (by kernel_rfl)
  · simp only [List.getElem?_toArray, List.getElem?_cons_succ, List.getElem?_cons_zero]; exact rfl
  · rfl
  · kernel_rfl
  · kernel_rfl
  · kernel_rfl
  · exact fun _ _ _ _ h => h
  apply Exists.intro
  apply And.intro
  · apply yr_run; rfl; intro w' hw'; go_simp; (try with_reducible rfl)
  simp only [Act.put, List.setIfInBounds_toArray, List.set_cons_zero, List.set_cons_succ]
  apply wpT_next 8 (some 16) (by kernel_rfl)
  · simp only [List.getElem?_toArray, List.getElem?_cons_succ, List.getElem?_cons_zero]; exact rfl
  · rfl
  · kernel_rfl
  · kernel_rfl
  · kernel_rfl
  · exact fun _ _ _ _ h => h
  apply Exists.intro
  apply And.intro
  · apply yr_run; rfl; intro w' hw'; go_simp; (try with_reducible rfl)
  simp only [Act.put, List.setIfInBounds_toArray, List.set_cons_zero, List.set_cons_succ]
  apply wpT_next 9 (some 17) (by kernel_rfl)
  · simp only [List.getElem?_toArray, List.getElem?_cons_succ, List.getElem?_cons_zero]; exact rfl
  · rfl
  · kernel_rfl
  · kernel_rfl
  · kernel_rfl
  · exact fun _ _ _ _ h => h
  apply Exists.intro
  apply And.intro
  · apply yr_run; rfl; intro w' hw'; go_simp; (try with_reducible rfl)
  simp only [Act.put, List.setIfInBounds_toArray, List.set_cons_zero, List.set_cons_succ]
  apply wpT_run 10 (some 18)
  · simp only [List.getElem?_toArray, List.getElem?_cons_succ, List.getElem?_cons_zero]; exact rfl
  · rfl
  · kernel_rfl
  · rfl
  intro w' hw'
  have hE := Ext.trans HDr.out hw'
  obtain ⟨w2, hrun, hq2, hg2⟩ := copy_sl 3 (HZ1.out.bl hE) (HR1.out.bl hE)
  refine ⟨_, w2, exec_copy (.tmp 13) (.tmp 17) 43 43 rfl rfl rfl hrun, kept_grow hg2 (fun i e => Option.some.inj e), ?_⟩
  have HQ2 := Lib.hid hq2
  have HW2 := Lib.hid ((HW1.out.bl hE).grown hg2 (fun e => Hgq.out (Option.some.inj e)))
  have HR2 : RowKit.Hid (RdS w2 w2.heap.size 1 A n c (rowsV f8 L)) := Lib.hid (HR.out.bl (ext_grown (Ext.trans HE1.out hE) hg2 (Nat.le_of_eq Gq.out)))
  have HK2 : RowKit.Hid (Ext w w2) := Lib.hid (ext_grown (Ext.trans HE1.out hE) hg2 (Nat.le_of_eq Gq.out))
  clear hrun hq2 hg2 hE hw' HZ1 HW1 HR1
  simp only [Act.put, List.setIfInBounds_toArray, List.set_cons_zero, List.set_cons_succ]
  apply wpT_next 11 (some 19) (by kernel_rfl)
  · simp only [List.getElem?_toArray, List.getElem?_cons_succ, List.getElem?_cons_zero]; exact rfl
  · rfl
  · kernel_rfl
  · kernel_rfl
  · kernel_rfl
  · exact fun _ _ _ _ h => h
  apply Exists.intro
  apply And.intro
  · apply yr_run; rfl; intro w' hw'; exact exec_slice_low_as 43 5 (.tmp 12) (.tmp 18) rfl Try.underlying43 (s := 1) (by kernel_rfl) rfl rfl (Nat.min_le_left _ _) HA1.out rfl rfl
  simp only [Act.put, List.setIfInBounds_toArray, List.set_cons_zero, List.set_cons_succ]
  apply wpT_run 12 (some 20)
  · simp only [List.getElem?_toArray, List.getElem?_cons_succ, List.getElem?_cons_zero]; exact rfl
  · rfl
  · kernel_rfl
  · rfl
  intro w' hw'
  apply Exists.intro
  apply Exists.intro
  apply And.intro
  · go_simp; first | done | exact ⟨rfl, rfl⟩ | exact rfl
  apply And.intro
  · exact Kept.refl _ _
  have hpd12 := hw'
  clear hw'
  simp only [Act.put, List.setIfInBounds_toArray, List.set_cons_zero, List.set_cons_succ]
  apply wpT_next 13 (some 21) (by kernel_rfl)
  · simp only [List.getElem?_toArray, List.getElem?_cons_succ, List.getElem?_cons_zero]; exact rfl
  · rfl
  · kernel_rfl
  · kernel_rfl
  · kernel_rfl
  · exact fun _ _ _ _ h => h
  apply Exists.intro
  apply And.intro
  · apply yr_run; rfl; intro w' hw'; go_simp; (try with_reducible rfl)
  simp only [Act.put, List.setIfInBounds_toArray, List.set_cons_zero, List.set_cons_succ]
  apply wpT_last 14
  · simp only [List.getElem?_toArray, List.getElem?_cons_succ, List.getElem?_cons_zero]; exact rfl
  · rfl
  · kernel_rfl
  · rfl
  · decide
  intro w' hw'
  replace hw' := Ext.trans hpd12 hw'
  clear hpd12
  have hyw := HW2.out.bl hw'
  have q0 := hyw.cell (i := 0) rfl
  have f0 := hyw.free 0
  refine ⟨w'.setCell ⟨g, 0, none⟩ (.slice A1 (n - min n k) (c - min n k)), by (go_simp; first | done | exact rfl | exact ⟨rfl, rfl⟩), ?_⟩
  have HQ3 := Lib.hid ((HQ2.out.bl hw').set_far' (i := 0) ((HQ2.out.bl hw').ne_ hyw (by decide)) (.slice A1 (n - min n k) (c - min n k)))
  have HW3 := Lib.hid (hyw.set_ 0 (.slice A1 (n - min n k) (c - min n k)))
  have HR3 : RowKit.Hid (RdS (w'.setCell ⟨g, 0, none⟩ (.slice A1 (n - min n k) (c - min n k))) w'.heap.size 1 A1 (n - min n k) (c - min n k) (rowsV f8 (L.drop k))) := Lib.hid (by
    have h9 := (HR2.out.bl hw').low_ (k := min n k) (Nat.min_le_left _ _)
    rw [HA1.out, show (rowsV f8 L).drop (min n k * 1) = rowsV f8 (L.drop k) from by rw [Nat.mul_one, rowsV_map8, ← List.map_drop, drop_min n k L Hl.out, ← rowsV_map8]] at h9
    exact rds_far8 h9 q0 (fun b e => by cases e) _)
  have HK3 : RowKit.Hid (w.grownBy (w'.setCell ⟨g, 0, none⟩ (.slice A1 (n - min n k) (c - min n k))) (some g)) := Lib.hid (grown_set (Ext.trans HK2.out hw') g 0 _)
  obtain ⟨w3, gw3⟩ : ∃ z, w'.setCell ⟨g, 0, none⟩ (.slice A1 (n - min n k) (c - min n k)) = z := ⟨_, rfl⟩
  have hsz : w3.heap.size = w'.heap.size := by rw [← gw3]; simp
  rw [gw3] at HQ3 HW3 HR3 HK3 ⊢
  rw [← hsz] at HR3
  clear hyw q0 f0 gw3 hsz hw' HQ2 HW2 HR2 HK2
  try simp only [Act.put, List.setIfInBounds_toArray, List.set_cons_zero, List.set_cons_succ]
  refine wpT_done (by kernel_rfl) ?_ _
  intro w9 hw9
  have HQ9 := Lib.hid (HQ3.out.bl hw9)
  have HW9 := Lib.hid (HW3.out.bl hw9)
  have HR9 := Lib.hid (HR3.out.bl hw9)
  have HK9 := Lib.hid (grown_ext HK3.out hw9)
  clear hw9 HQ3 HW3 HR3 HK3
  clear ld0
  go_wp2
  go_ret
  exact ⟨q, rfl, Nat.le_of_eq Gq.out, HQ9.out, A1, n - min n k, c - min n k, HW9.out, HR9.out, HK9.out, fun a ha h0 => by
    have h1 := HA1.out
    rw [if_neg (by have := Hnc.out; omega)] at h1
    rw [← h1] at ha
    cases hA : A with
    | none => rw [hA] at ha; cases ha
    | some b =>
      rw [hA] at ha
      obtain rfl := Option.some.inj ha
      rw [add_block]
      exact Hlo.out b hA (by omega)⟩

end Go.Proofs.Ytahbfdhjgnlmdaa

/- The reader: count. ident.first and ident.Take of four bytes. -/
namespace Go.Proofs.Ytahbfdhjgnlmdaa
open Go.RowKit
set_option linter.unusedSimpArgs false
set_option linter.unusedVariables false

theorem nx_one (L : List Nat) : nx 1 L = [c1 L] := by cases L <;> rfl
theorem byte_lt {L : List Nat} (h : ∀ b ∈ L, b < 256) : c1 L < 256 := by
  cases L with
  | nil => show 0 < 256; omega
  | cons a l => exact h a (by simp)
/-- Where the reader stands; its bytes lie below lo. -/
def RdAt (lo : Nat) (w : World) (g : Nat) (R : List Nat) : Prop := ∃ A n c, Whole w g 89 [.slice A n c] ∧ RdS w w.heap.size 1 A n c (rowsV f8 R) ∧ n ≤ 1000000 ∧ ∀ a, A = some a → 0 < n → a.block < lo
theorem LeftAt.at_ {lo : Nat} {w w1 : World} {g : Nat} {R : List Nat} (h : LeftAt lo w w1 g R) (hn : R.length ≤ 1000000) : RdAt lo w1 g R ∧ w.grownBy w1 (some g) := by
  obtain ⟨A, n, c, h3, h4, h5, h6⟩ := h
  have := h4.rlen f8_len (by decide)
  exact ⟨⟨A, n, c, h3, h4, by omega, h6⟩, h5⟩
theorem next_at (lo g k : Nat) (L : List Nat) (w : World) (h : RdAt lo w g L) (hk : k ≤ 1000) :
    Calls Try.prog 76 #[.pointer (some ⟨g, 0, none⟩), .int .i64 (k : Int)] w fun e w' => ∃ q, e = .returned (.slice (some ⟨q, 0, none⟩) k k) ∧ w.heap.size ≤ q ∧ Whole w' q 5 (rowsV f8 (nx k L)) ∧ RdAt lo w' g (L.drop k) ∧ w.grownBy w' (some g) := by
  obtain ⟨A, n, c, h1, h2, h3, h4⟩ := h
  have hl := h2.rlen f8_len (by decide)
  refine (next_any lo g k A n c L w h1 h2 hk h3 h4).mono ?_
  rintro e w' ⟨q, rfl, hq, hw, hla⟩
  have h9 := hla.at_ (by rw [List.length_drop]; omega)
  exact ⟨q, rfl, hq, hw, h9.1, h9.2⟩
set_option maxRecDepth 100000 in
set_option maxHeartbeats 1000000 in
theorem count_at (lo g : Nat) (L : List Nat) (w : World) (h : RdAt lo w g L) (hb : ∀ b ∈ L, b < 256) :
    Calls Try.prog 57 #[.pointer (some ⟨g, 0, none⟩)] w fun e w' => e = .returned (.int .i64 (c1 L : Int)) ∧ RdAt lo w' g (L.drop 1) ∧ w.grownBy w' (some g) := by
  have HN := Lib.hid (next_at lo g 1 L w h (by omega))
  rw [nx_one] at HN
  have hlt := byte_lt hb
  obtain ⟨b, gb⟩ : ∃ z, c1 L = z := ⟨_, rfl⟩
  rw [gb] at HN hlt ⊢
  obtain ⟨R, gR⟩ : ∃ z, L.drop 1 = z := ⟨_, rfl⟩
  rw [gR] at HN ⊢
  have hw : IntKind.i64.wrap (b : Int) = (b : Int) := IntWalk.i64_in _ (by omega)
  clear h hb gb gR
  go_enter Try.func57, Try.ntmps57
  go_wp2_with (first
    | (go_at_call 76
       refine HN.out.mono ?_
       rintro e w2 ⟨q, rfl, hq, hwq, hra, hgr⟩
       have l0 := hwq.cell (i := 0) (v := .int .u8 (b : Int)) rfl
       have HRa := Lib.hid hra
       have HGr := Lib.hid hgr
       clear hq hwq hra hgr))
  go_ret
  exact ⟨rfl, HRa.out, HGr.out⟩
theorem i64_or_16 (x y : Nat) (hx : x < 256) (hy : y < 65536) : bits .or .i64 ((x : Int) * 65536) (y : Int) = ((x * 65536 + y : Nat) : Int) := by
  have e : ((x : Int) * 65536) = ((2 ^ 16 * x : Nat) : Int) := by omega
  rw [e]
  show IntKind.i64.wrap ((BitVec.ofInt 64 ((2 ^ 16 * x : Nat) : Int) ||| BitVec.ofInt 64 (y : Int)).toNat : Int) = _
  rw [BitVec.toNat_or, ofInt_64 _ (by omega), ofInt_64 y (by omega), ← Nat.two_pow_add_eq_or_of_lt (by omega) x, IntWalk.i64_in _ (by omega)]
  omega
theorem i64_or_8 (x y : Nat) (hx : x < 16777216) (hy : y < 256) : bits .or .i64 ((x * 256 : Nat) : Int) (y : Int) = ((x * 256 + y : Nat) : Int) := by
  have e : ((x * 256 : Nat) : Int) = ((2 ^ 8 * x : Nat) : Int) := by omega
  rw [e]
  show IntKind.i64.wrap ((BitVec.ofInt 64 ((2 ^ 8 * x : Nat) : Int) ||| BitVec.ofInt 64 (y : Int)).toNat : Int) = _
  rw [BitVec.toNat_or, ofInt_64 _ (by omega), ofInt_64 y (by omega), ← Nat.two_pow_add_eq_or_of_lt (by omega) x, IntWalk.i64_in _ (by omega)]
  omega
theorem ret_whole3 {P : Program} {fn : Func} {R : Ending → World → Prop} {a : Act} {w : World} {p u u2 : Tmp} {t : TypeId} (h : fn.results = #[.cell p t, .tmp u, .tmp u2]) (g : Nat) {t' : TypeId} {cs : List Value} {d : TypeDesc} {v v2 : Value}
    (hp : a.tmps.getD p undef = .pointer (some ⟨g, 0, none⟩)) (hv : a.tmps.getD u undef = v) (hv2 : a.tmps.getD u2 undef = v2) (hW : Whole w g t' cs) (hu : P.underlying t = some d) (hd : d.isRow = true) (hi : (P.info? t).map (·.size) = some cs.length)
    (hdf : a.defers = []) (hR : R (.returned (.tuple #[.agg cs.toArray, v, v2])) w) : bodyPost P fn R .ret a w := by
  refine bodyPost_ret (v := .tuple #[.agg cs.toArray, v, v2]) ?_ hdf hR
  have hl := run_loadVar_mid (P := P) w g 0 t cs d (fun j v hv => by
    have := hW.cell hv
    simpa using this) hu hd hi
  have hp2 := hp
  have hv3 := hv
  have hv4 := hv2
  rw [Array.getD_eq_getD_getElem?] at hp2 hv3 hv4
  simp [results, h, hp2, hv3, hv4, asAddr, Sem.run_bind, Result.andThen, hl]
set_option maxRecDepth 100000 in
set_option maxHeartbeats 4000000 in
theorem first_any (A : Option Addr) (n c : Nat) (b0 b1 b2 b3 : Nat) (R : List Nat) (w : World) (h : RdS w w.heap.size 1 A n c (rowsV f8 (b0 :: b1 :: b2 :: b3 :: R))) (h0 : b0 < 256) (h1 : b1 < 256) (h2 : b2 < 256) (h3 : b3 < 256) :
    Calls Try.prog 94 #[.slice A n c] w fun e w' => e = .returned (.agg #[.int .i64 (b0 : Int), .int .i64 (65536 * (b1 : Int) + 256 * (b2 : Int) + (b3 : Int))]) ∧ Below w.heap.size w w' := by
  have hl := h.rlen f8_len (by decide)
  simp only [List.length_cons] at hl
  obtain ⟨bb, off, rfl, hbb, hp⟩ := byte_at h (by omega)
  have q0 := hp 0 b0 rfl
  have q1 := hp 1 b1 rfl
  have q2 := hp 2 b2 rfl
  have q3 := hp 3 b3 rfl
  rw [Nat.add_zero] at q0
  have hE : Ext w (w.alloc (.cells #[.int .i64 0, .int .i64 0] 31)) := below1 w _
  have HX : RowKit.Hid (Whole (w.alloc (.cells #[.int .i64 0, .int .i64 0] 31)) w.heap.size 31 [.int .i64 0, .int .i64 0]) := Lib.hid (Whole.new_ _ _ [_, _])
  have Q0 := Lib.hid (hE.cell q0)
  have Q1 := Lib.hid (hE.cell q1)
  have Q2 := Lib.hid (hE.cell q2)
  have Q3 := Lib.hid (hE.cell q3)
  have HE := Lib.hid hE
  have hm0 : 0 < n := by omega
  have hm1 : 1 < n := by omega
  have hm2 : 2 < n := by omega
  have hm3 : 3 < n := by omega
  have hn0 : (0 : Int) < (n : Int) := by omega
  have hn1 : (1 : Int) < (n : Int) := by omega
  have hn2 : (2 : Int) < (n : Int) := by omega
  have hn3 : (3 : Int) < (n : Int) := by omega
  have hd1 : decide ((n : Int) < 4) = false := decide_eq_false (by omega)
  have hd2 : decide (n < 4) = false := decide_eq_false (by omega)
  have w0 : IntKind.i64.wrap (b0 : Int) = (b0 : Int) := IntWalk.i64_in _ (by omega)
  have w1 : IntKind.i64.wrap (b1 : Int) = (b1 : Int) := IntWalk.i64_in _ (by omega)
  have w2 : IntKind.i64.wrap (b2 : Int) = (b2 : Int) := IntWalk.i64_in _ (by omega)
  have w3 : IntKind.i64.wrap (b3 : Int) = (b3 : Int) := IntWalk.i64_in _ (by omega)
  have w4 : IntKind.i64.wrap ((b1 : Int) * 65536) = (b1 : Int) * 65536 := IntWalk.i64_in _ (by omega)
  obtain ⟨x2, gx2⟩ : ∃ z, b2 * 256 = z := ⟨_, rfl⟩
  have w5 : IntKind.i64.wrap ((b2 : Int) * 256) = (x2 : Int) := by rw [IntWalk.i64_in _ (by omega)]; omega
  have o1 := i64_or_16 b1 x2 h1 (by omega)
  obtain ⟨x3, gx3⟩ : ∃ z, b1 * 256 + b2 = z := ⟨_, rfl⟩
  have o2 := i64_or_8 x3 b3 (by omega) h3
  obtain ⟨x4, gx4⟩ : ∃ z, b1 * 65536 + x2 = z := ⟨_, rfl⟩
  rw [show x3 * 256 = x4 by omega] at o2
  rw [gx4] at o1
  obtain ⟨x5, gx5⟩ : ∃ z, x4 + b3 = z := ⟨_, rfl⟩
  rw [gx5] at o2
  have Hx5 : RowKit.Hid (65536 * (b1 : Int) + 256 * (b2 : Int) + (b3 : Int) = (x5 : Int)) := Lib.hid (by omega)
  rw [Hx5.out]
  clear h hl hp q0 q1 q2 q3 hE gx2 gx3 gx4 gx5 hbb
  go_enter Try.func94, Try.ntmps94
  go_upto_region 3 with fail
  obtain ⟨w8, gw8⟩ : ∃ z, w.alloc (.cells #[.int .i64 0, .int .i64 0] 31) = z := ⟨_, rfl⟩
  obtain ⟨b9, gb9⟩ : ∃ z, w.heap.size = z := ⟨_, rfl⟩
  rw [gw8] at HX Q0 Q1 Q2 Q3 HE ⊢
  rw [gb9] at HX ⊢
  have Gb9 := Lib.hid gb9
  clear gw8 gb9 hd1 hd2
  have ld0 : ∀ w', Kept Nil_ w8.drew w' → w'.cell? ⟨bb, off, none⟩ = some (.int .u8 (b0 : Int)) := fun w' h => h.nil_cell (show w8.drew.cell? _ = _ from Q0.out)
  have ld1 : ∀ w', Kept Nil_ w8.drew w' → w'.cell? ⟨bb, off + 1, none⟩ = some (.int .u8 (b1 : Int)) := fun w' h => h.nil_cell (show w8.drew.cell? _ = _ from Q1.out)
  have ld2 : ∀ w', Kept Nil_ w8.drew w' → w'.cell? ⟨bb, off + 2, none⟩ = some (.int .u8 (b2 : Int)) := fun w' h => h.nil_cell (show w8.drew.cell? _ = _ from Q2.out)
  have ld3 : ∀ w', Kept Nil_ w8.drew w' → w'.cell? ⟨bb, off + 3, none⟩ = some (.int .u8 (b3 : Int)) := fun w' h => h.nil_cell (show w8.drew.cell? _ = _ from Q3.out)
  refine wp_region_tail (Nil_) [21] (by kernel_rfl) ?_
  apply wpT_next 0 (some 7) (by kernel_rfl)
  · simp only [List.getElem?_toArray, List.getElem?_cons_succ, List.getElem?_cons_zero]; exact rfl
  · rfl
  · kernel_rfl
  · kernel_rfl
  · kernel_rfl
  · exact fun _ _ _ _ h => h
  apply Exists.intro
  apply And.intro
  · apply yr_run; rfl; intro w' hw'; go_simp; (try with_reducible rfl)
  simp only [Act.put, List.setIfInBounds_toArray, List.set_cons_zero, List.set_cons_succ]
  apply wpT_next 1 (some 8) (by kernel_rfl)
  · simp only [List.getElem?_toArray, List.getElem?_cons_succ, List.getElem?_cons_zero]; exact rfl
  · rfl
  · kernel_rfl
  · kernel_rfl
  · kernel_rfl
  · exact fun _ _ _ _ h => h
  apply Exists.intro
  apply And.intro
  · apply yr_run; rfl; intro w' hw'; go_simp; (try with_reducible rfl)
  simp only [Act.put, List.setIfInBounds_toArray, List.set_cons_zero, List.set_cons_succ]
  apply wpT_next 2 (some 9) (by kernel_rfl)
  · simp only [List.getElem?_toArray, List.getElem?_cons_succ, List.getElem?_cons_zero]; exact rfl
  · rfl
  · kernel_rfl
  · kernel_rfl
  · kernel_rfl
  · exact fun _ _ _ _ h => h
  apply Exists.intro
  apply And.intro
  · apply yr_run; rfl; intro w' hw'; go_simp; (try with_reducible rfl)
  simp only [Act.put, List.setIfInBounds_toArray, List.set_cons_zero, List.set_cons_succ]
  apply wpT_next 3 (some 10) (by kernel_rfl)
  · simp only [List.getElem?_toArray, List.getElem?_cons_succ, List.getElem?_cons_zero]; exact rfl
  · rfl
  · kernel_rfl
  · kernel_rfl
  · kernel_rfl
  · exact fun _ _ _ _ h => h
  apply Exists.intro
  apply And.intro
  · apply yr_run; rfl; intro w' hw'; go_simp; (try with_reducible rfl)
  simp only [Act.put, List.setIfInBounds_toArray, List.set_cons_zero, List.set_cons_succ]
  apply wpT_next 4 (some 11) (by kernel_rfl)
  · simp only [List.getElem?_toArray, List.getElem?_cons_succ, List.getElem?_cons_zero]; exact rfl
  · rfl
  · kernel_rfl
  · kernel_rfl
  · kernel_rfl
  · exact fun _ _ _ _ h => h
  apply Exists.intro
  apply And.intro
  · apply yr_run; rfl; intro w' hw'; go_simp; (try with_reducible rfl)
  simp only [Act.put, List.setIfInBounds_toArray, List.set_cons_zero, List.set_cons_succ]
  apply wpT_next 5 (some 12) (by kernel_rfl)
  · simp only [List.getElem?_toArray, List.getElem?_cons_succ, List.getElem?_cons_zero]; exact rfl
  · rfl
  · kernel_rfl
  · kernel_rfl
  · kernel_rfl
  · exact fun _ _ _ _ h => h
  apply Exists.intro
  apply And.intro
  · apply yr_run; rfl; intro w' hw'; go_simp; (try with_reducible rfl)
  simp only [Act.put, List.setIfInBounds_toArray, List.set_cons_zero, List.set_cons_succ]
  apply wpT_next 6 (some 13) (by kernel_rfl)
  · simp only [List.getElem?_toArray, List.getElem?_cons_succ, List.getElem?_cons_zero]; exact rfl
  · rfl
  · kernel_rfl
  · kernel_rfl
  · kernel_rfl
  · exact fun _ _ _ _ h => h
  apply Exists.intro
  apply And.intro
  · apply yr_run; rfl; intro w' hw'; go_simp; (try with_reducible rfl)
  simp only [Act.put, List.setIfInBounds_toArray, List.set_cons_zero, List.set_cons_succ]
  apply wpT_next 7 (some 14) (by kernel_rfl)
  · simp only [List.getElem?_toArray, List.getElem?_cons_succ, List.getElem?_cons_zero]; exact rfl
  · rfl
  · kernel_rfl
  · kernel_rfl
  · kernel_rfl
  · exact fun _ _ _ _ h => h
  apply Exists.intro
  apply And.intro
  · apply yr_run; rfl; intro w' hw'; go_simp; (try with_reducible rfl)
  simp only [Act.put, List.setIfInBounds_toArray, List.set_cons_zero, List.set_cons_succ]
  apply wpT_next 8 (some 15) (by kernel_rfl)
  · simp only [List.getElem?_toArray, List.getElem?_cons_succ, List.getElem?_cons_zero]; exact rfl
  · rfl
  · kernel_rfl
  · kernel_rfl
  · kernel_rfl
  · exact fun _ _ _ _ h => h
  apply Exists.intro
  apply And.intro
  · apply yr_run; rfl; intro w' hw'; go_simp; (try with_reducible rfl)
  simp only [Act.put, List.setIfInBounds_toArray, List.set_cons_zero, List.set_cons_succ]
  apply wpT_next 9 (some 16) (by kernel_rfl)
  · simp only [List.getElem?_toArray, List.getElem?_cons_succ, List.getElem?_cons_zero]; exact rfl
  · rfl
  · kernel_rfl
  · kernel_rfl
  · kernel_rfl
  · exact fun _ _ _ _ h => h
  apply Exists.intro
  apply And.intro
  · apply yr_run; rfl; intro w' hw'; go_simp; (try with_reducible rfl)
  simp only [Act.put, List.setIfInBounds_toArray, List.set_cons_zero, List.set_cons_succ]
  apply wpT_next 10 (some 17) (by kernel_rfl)
  · simp only [List.getElem?_toArray, List.getElem?_cons_succ, List.getElem?_cons_zero]; exact rfl
  · rfl
  · kernel_rfl
  · kernel_rfl
  · kernel_rfl
  · exact fun _ _ _ _ h => h
  apply Exists.intro
  apply And.intro
  · apply yr_run; rfl; intro w' hw'; go_simp; (try with_reducible rfl)
  simp only [Act.put, List.setIfInBounds_toArray, List.set_cons_zero, List.set_cons_succ]
  apply wpT_next 11 (some 18) (by kernel_rfl)
  · simp only [List.getElem?_toArray, List.getElem?_cons_succ, List.getElem?_cons_zero]; exact rfl
  · rfl
  · kernel_rfl
  · kernel_rfl
  · kernel_rfl
  · exact fun _ _ _ _ h => h
  apply Exists.intro
  apply And.intro
  · apply yr_run; rfl; intro w' hw'; go_simp; (try with_reducible rfl)
  simp only [Act.put, List.setIfInBounds_toArray, List.set_cons_zero, List.set_cons_succ]
  apply wpT_next 12 (some 19) (by kernel_rfl)
  · simp only [List.getElem?_toArray, List.getElem?_cons_succ, List.getElem?_cons_zero]; exact rfl
  · rfl
  · kernel_rfl
  · kernel_rfl
  · kernel_rfl
  · exact fun _ _ _ _ h => h
  apply Exists.intro
  apply And.intro
  · apply yr_run; rfl; intro w' hw'; go_simp; (try with_reducible rfl)
  simp only [Act.put, List.setIfInBounds_toArray, List.set_cons_zero, List.set_cons_succ]
  apply wpT_next 13 (some 20) (by kernel_rfl)
  · simp only [List.getElem?_toArray, List.getElem?_cons_succ, List.getElem?_cons_zero]; exact rfl
  · rfl
  · kernel_rfl
  · kernel_rfl
  · kernel_rfl
  · exact fun _ _ _ _ h => h
  apply Exists.intro
  apply And.intro
  · apply yr_run; rfl; intro w' hw'; go_simp; (try with_reducible rfl)
  simp only [Act.put, List.setIfInBounds_toArray, List.set_cons_zero, List.set_cons_succ]
  apply wpT_next 14 (some 21) (by kernel_rfl)
  · simp only [List.getElem?_toArray, List.getElem?_cons_succ, List.getElem?_cons_zero]; exact rfl
  · rfl
  · kernel_rfl
  · kernel_rfl
  · kernel_rfl
  · exact fun _ _ _ _ h => h
  apply Exists.intro
  apply And.intro
  · apply yr_run; rfl; intro w' hw'; go_simp; (try with_reducible rfl)
  simp only [Act.put, List.setIfInBounds_toArray, List.set_cons_zero, List.set_cons_succ]
  apply wpT_next 15 (some 22) (by kernel_rfl)
  · simp only [List.getElem?_toArray, List.getElem?_cons_succ, List.getElem?_cons_zero]; exact rfl
  · rfl
  · kernel_rfl
  · kernel_rfl
  · kernel_rfl
  · exact fun _ _ _ _ h => h
  apply Exists.intro
  apply And.intro
  · apply yr_run; rfl; intro w' hw'; go_simp; (try with_reducible rfl)
  simp only [Act.put, List.setIfInBounds_toArray, List.set_cons_zero, List.set_cons_succ]
  apply wpT_next 16 (some 23) (by kernel_rfl)
  · simp only [List.getElem?_toArray, List.getElem?_cons_succ, List.getElem?_cons_zero]; exact rfl
  · rfl
  · kernel_rfl
  · kernel_rfl
  · kernel_rfl
  · exact fun _ _ _ _ h => h
  apply Exists.intro
  apply And.intro
  · apply yr_run; rfl; intro w' hw'; go_simp; (try with_reducible rfl)
  simp only [Act.put, List.setIfInBounds_toArray, List.set_cons_zero, List.set_cons_succ]
  apply wpT_next 17 (some 24) (by kernel_rfl)
  · simp only [List.getElem?_toArray, List.getElem?_cons_succ, List.getElem?_cons_zero]; exact rfl
  · rfl
  · kernel_rfl
  · kernel_rfl
  · kernel_rfl
  · exact fun _ _ _ _ h => h
  apply Exists.intro
  apply And.intro
  · apply yr_run; rfl; intro w' hw'; go_simp; (try with_reducible rfl)
  simp only [Act.put, List.setIfInBounds_toArray, List.set_cons_zero, List.set_cons_succ]
  apply wpT_next 18 (some 25) (by kernel_rfl)
  · simp only [List.getElem?_toArray, List.getElem?_cons_succ, List.getElem?_cons_zero]; exact rfl
  · rfl
  · kernel_rfl
  · kernel_rfl
  · kernel_rfl
  · exact fun _ _ _ _ h => h
  apply Exists.intro
  apply And.intro
  · apply yr_run; rfl; intro w' hw'; go_simp; (try with_reducible rfl)
  simp only [Act.put, List.setIfInBounds_toArray, List.set_cons_zero, List.set_cons_succ]
  apply wpT_next 19 (some 26) (by kernel_rfl)
  · simp only [List.getElem?_toArray, List.getElem?_cons_succ, List.getElem?_cons_zero]; exact rfl
  · rfl
  · kernel_rfl
  · kernel_rfl
  · kernel_rfl
  · exact fun _ _ _ _ h => h
  apply Exists.intro
  apply And.intro
  · apply yr_run; rfl; intro w' hw'; go_simp; (try with_reducible rfl)
  simp only [Act.put, List.setIfInBounds_toArray, List.set_cons_zero, List.set_cons_succ]
  apply wpT_next 20 (some 27) (by kernel_rfl)
  · simp only [List.getElem?_toArray, List.getElem?_cons_succ, List.getElem?_cons_zero]; exact rfl
  · rfl
  · kernel_rfl
  · kernel_rfl
  · kernel_rfl
  · exact fun _ _ _ _ h => h
  apply Exists.intro
  apply And.intro
  · apply yr_run; rfl; intro w' hw'; go_simp; (try with_reducible rfl)
  simp only [Act.put, List.setIfInBounds_toArray, List.set_cons_zero, List.set_cons_succ]
  apply wpT_last 21
  · simp only [List.getElem?_toArray, List.getElem?_cons_succ, List.getElem?_cons_zero]; exact rfl
  · rfl
  · kernel_rfl
  · rfl
  · decide
  intro w' hw'
  refine ⟨w'.setRow b9 #[.int .i64 (b0 : Int), .int .i64 (x5 : Int)], store_row_run 31 (.tmp 2) (.tmp 27) rfl b9 rfl [.int .i64 (b0 : Int), .int .i64 (x5 : Int)] rfl 31 [.int .i64 0, .int .i64 0] (HX.out.bl (Ext.trans (below_drewN w8.heap.size w8 1) hw')) (by kernel_rfl) rfl (by simp [Value.oneCell']), ?_⟩
  have HX8 : RowKit.Hid (Whole (w'.setRow b9 #[.int .i64 (b0 : Int), .int .i64 (x5 : Int)]) b9 31 [.int .i64 (b0 : Int), .int .i64 (x5 : Int)]) := Lib.hid (Whole.row (HX.out.bl (Ext.trans (below_drewN w8.heap.size w8 1) hw')) [_, _])
  have HB8 : RowKit.Hid (Below w.heap.size w (w'.setRow b9 #[.int .i64 (b0 : Int), .int .i64 (x5 : Int)])) := Lib.hid (below_row (Ext.trans HE.out (Ext.trans (below_drewN w8.heap.size w8 1) hw')) (Nat.le_of_eq Gb9.out) _)
  clear hw' 
  try simp only [Act.put, List.setIfInBounds_toArray, List.set_cons_zero, List.set_cons_succ]
  refine wpT_done (by kernel_rfl) ?_ _
  intro w10 hw10
  have HX9 := Lib.hid (HX8.out.bl hw10)
  have HB9 := Lib.hid (bel_bl HB8.out hw10)
  clear hw10
  go_wp2
  exact ret_whole rfl b9 rfl HX9.out Try.underlying31 rfl (by kernel_rfl) rfl ⟨rfl, HB9.out⟩

end Go.Proofs.Ytahbfdhjgnlmdaa

/- ident.Take of four bytes. -/
namespace Go.Proofs.Ytahbfdhjgnlmdaa
open Go.RowKit
set_option linter.unusedSimpArgs false
set_option linter.unusedVariables false

theorem kept_setRow {S : Nat → Prop} (w : World) (g : Nat) (hS : S g) (cs : Array Value) : Kept S w (w.setRow g cs) := ⟨rfl, rfl, rfl, by simp [World.setRow], fun i _ hn => setRow_other w g i cs (fun e => hn (by rw [e]; exact hS))⟩
set_option maxRecDepth 100000 in
set_option maxHeartbeats 4000000 in
theorem idtake_any (A : Option Addr) (c : Nat) (b0 b1 b2 b3 : Nat) (R : List Nat) (w : World) (h : RdS w w.heap.size 1 A (b0 :: b1 :: b2 :: b3 :: R).length c (rowsV f8 (b0 :: b1 :: b2 :: b3 :: R))) (h0 : b0 < 256) (h1 : b1 < 256) (h2 : b2 < 256) (h3 : b3 < 256) (hn : (b0 :: b1 :: b2 :: b3 :: R).length ≤ 100000) :
    Calls Try.prog 77 #[.slice A (b0 :: b1 :: b2 :: b3 :: R).length c] w fun e w' => ∃ A' n' c' ok, e = .returned (.tuple #[.agg #[.int .i64 (tk4 (b0 :: b1 :: b2 :: b3 :: R)).1, .int .i64 (tk4 (b0 :: b1 :: b2 :: b3 :: R)).2], .slice A' n' c', .bool ok]) ∧ Below w.heap.size w w' := by
  have HF := Lib.hid (fun W h => first_any A (b0 :: b1 :: b2 :: b3 :: R).length c b0 b1 b2 b3 R W h h0 h1 h2 h3)
  have hlow := h.low_ (k := 4) (by simp)
  have hdl : ((b0 :: b1 :: b2 :: b3 :: R).drop 4).length = (b0 :: b1 :: b2 :: b3 :: R).length - 4 := List.length_drop
  rw [show (rowsV f8 (b0 :: b1 :: b2 :: b3 :: R)).drop (4 * 1) = rowsV f8 R from rfl, show (b0 :: b1 :: b2 :: b3 :: R).length - 4 = R.length from by simp] at hlow
  obtain ⟨A1, hA1⟩ : ∃ A1, (if c = 4 then A else A.map (·.add (4 * 1))) = A1 := ⟨_, rfl⟩
  rw [hA1] at hlow
  have hl : (b0 :: b1 :: b2 :: b3 :: R).length = R.length + 4 := by simp
  have HC1 := Lib.hid (fun W (hW : Ext w W) => clone8 A1 (c - 4) R W (hlow.up hW hW.size) (by omega))
  have HC2 := Lib.hid (fun W (hW : Ext w W) => clone8 A c (b0 :: b1 :: b2 :: b3 :: R) W (h.up hW hW.size) hn)
  have ht : tk4 (b0 :: b1 :: b2 :: b3 :: R) = if mayI (b0 : Int) (65536 * (b1 : Int) + 256 * (b2 : Int) + (b3 : Int)) = true then ((b0 : Int), 65536 * (b1 : Int) + 256 * (b2 : Int) + (b3 : Int)) else (0, 0) := rfl
  obtain ⟨s, gs⟩ : ∃ z : Int, (b0 : Int) = z := ⟨_, rfl⟩
  obtain ⟨k, gk⟩ : ∃ z : Int, 65536 * (b1 : Int) + 256 * (b2 : Int) + (b3 : Int) = z := ⟨_, rfl⟩
  rw [gs, gk] at HF ht
  have HR := Lib.hid h
  obtain ⟨M, gM⟩ : ∃ z, b0 :: b1 :: b2 :: b3 :: R = z := ⟨_, rfl⟩
  rw [gM] at HF HC2 ht HR hl ⊢
  obtain ⟨m, gm⟩ : ∃ z, M.length = z := ⟨_, rfl⟩
  rw [gm] at HF HC2 HR hl ⊢
  have Gm := Lib.hid gm
  obtain ⟨r, gr⟩ : ∃ z, R.length = z := ⟨_, rfl⟩
  rw [gr] at HC1 hl
  have Gr := Lib.hid gr
  have HAr := Lib.hid hA1
  have Hm4 : RowKit.Hid (4 ≤ m ∧ m - 4 = r) := Lib.hid (by omega)
  obtain ⟨my, gmy⟩ : ∃ z, mayI s k = z := ⟨_, rfl⟩
  have HMy : RowKit.Hid (∀ W, Calls Try.prog 83 #[.agg #[.int .i64 s, .int .i64 k]] W fun e w' => e = .returned (.bool my) ∧ Below W.heap.size W w') := Lib.hid (fun W => gmy ▸ may_any s k W)
  rw [gmy] at ht
  obtain ⟨⟨t1, t2⟩, gt⟩ : ∃ z, tk4 M = z := ⟨_, rfl⟩
  rw [gt] at ht ⊢
  have Ht := Lib.hid ht
  have HX0 : RowKit.Hid (Whole (w.alloc (.cells #[.int .i64 0, .int .i64 0] 31)) w.heap.size 31 [.int .i64 0, .int .i64 0]) := Lib.hid (Whole.new_ _ _ [_, _])
  have HE0 : RowKit.Hid (Ext w (w.alloc (.cells #[.int .i64 0, .int .i64 0] 31))) := Lib.hid (below1 w _)
  have HR0 := Lib.hid (HR.out.al (.cells #[.int .i64 0, .int .i64 0] 31))
  clear h hlow hdl gs gk gM gm gr hA1 hl hn gmy gt ht
  go_enter Try.func77, Try.ntmps77
  go_upto_region 1 with fail
  obtain ⟨w0, gw0⟩ : ∃ z, w.alloc (.cells #[.int .i64 0, .int .i64 0] 31) = z := ⟨_, rfl⟩
  obtain ⟨b, gb⟩ : ∃ z, w.heap.size = z := ⟨_, rfl⟩
  rw [gw0] at HX0 HE0 HR0 ⊢
  rw [gb] at HX0 ⊢
  have Gb := Lib.hid gb
  clear gw0 gb
  go_upto_region 2 with (first
    | (go_at_call 94
       refine (HF.out _ HR0.out).mono ?_
       rintro e w1 ⟨rfl, hb1⟩
       have HX1 := Lib.hid ((HX0.out.bl hb1).al (.cells #[.int .i64 s, .int .i64 k] 31))
       have HE1 : RowKit.Hid (Ext w (w1.alloc (.cells #[.int .i64 s, .int .i64 k] 31))) := Lib.hid (Ext.trans (Ext.trans HE0.out hb1) (below1 w1 _))
       have HY1 : RowKit.Hid (Whole (w1.alloc (.cells #[.int .i64 s, .int .i64 k] 31)) w1.heap.size 31 [.int .i64 s, .int .i64 k]) := Lib.hid (Whole.new_ _ _ [_, _])
       have HN1 : RowKit.Hid (w1.heap.size ≠ b) := Lib.hid (by have := (HX0.out.bl hb1).lt; omega)
       clear hb1))
  obtain ⟨w2, gw2⟩ : ∃ z, w1.alloc (.cells #[.int .i64 s, .int .i64 k] 31) = z := ⟨_, rfl⟩
  obtain ⟨b5, gb5⟩ : ∃ z, w1.heap.size = z := ⟨_, rfl⟩
  rw [gw2] at HX1 HE1 HY1 ⊢
  rw [gb5] at HY1 HN1 ⊢
  clear gw2 gb5 HX0 HE0 HR0 HF
  have d0 := HY1.out.cell (i := 0) rfl
  have d1 := HY1.out.cell (i := 1) rfl
  cases my with
  | false =>
    have ht := Ht.out
    rw [if_neg (by decide)] at ht
    injection ht with e1 e2
    subst e1 e2
    go_upto_region 3 with (first
      | (go_at_call 83
         refine (HMy.out _).mono ?_
         rintro e w3 ⟨rfl, hb3⟩
         have HX3 := Lib.hid (HX1.out.bl hb3)
         have HE3 := Lib.hid (Ext.trans HE1.out hb3)
         clear hb3 d0 d1))
    go_wp2_with (first
      | (go_at_call 38
         refine (HC2.out _ HE3.out).mono ?_
         rintro e w4 ⟨A4, c4, rfl, -, -, -, hb4⟩
         rw [Gm.out]
         have HX4 := Lib.hid (HX3.out.bl hb4)
         have HE4 : RowKit.Hid (Ext w w4) := Lib.hid (Ext.trans HE3.out hb4)
         have q0 := HX4.out.cell (i := 0) rfl
         have q1 := HX4.out.cell (i := 1) rfl
         have f0 := HX4.out.free 0
         have f1 := HX4.out.free 1
         clear hb4))
    have HXz := (HX4.out.set_ 0 (.int .i64 0)).set_ 1 (.int .i64 0)
    have HBz := ((show Below w.heap.size w w4 from HE4.out).setCell (p := ⟨b, 0, none⟩) (by show w.heap.size ≤ b; exact Nat.le_of_eq Gb.out) (.int .i64 0)).setCell (p := ⟨b, 1, none⟩) (by show w.heap.size ≤ b; exact Nat.le_of_eq Gb.out) (.int .i64 0)
    exact ret_whole3 rfl b rfl rfl rfl HXz Try.underlying31 rfl (by kernel_rfl) rfl ⟨A4, m, c4, false, rfl, HBz⟩
  | true =>
    have ht := Ht.out
    rw [if_pos rfl] at ht
    injection ht with e1 e2
    subst e1 e2
    go_upto_region 4 with (first
      | (go_at_call 83
         refine (HMy.out _).mono ?_
         rintro e w3 ⟨rfl, hb3⟩
         have HX3 := Lib.hid (HX1.out.bl hb3)
         have HE3 : RowKit.Hid (Ext w w3) := Lib.hid (Ext.trans HE1.out hb3)
         have HY3 := Lib.hid (HY1.out.bl hb3)
         clear hb3 d0 d1))
    have HDr : RowKit.Hid (Ext w3 w3.drew) := Lib.hid (below_drewN w3.heap.size w3 1)
    have ld0 : ∀ w', Kept (fun i => i = b) w3.drew w' → w'.cell? ⟨b5, 0, none⟩ = some (.int .i64 t1) := fun w' h => h.cell (HY3.out.dr.cell (i := 0) rfl) HN1.out
    have ld1 : ∀ w', Kept (fun i => i = b) w3.drew w' → w'.cell? ⟨b5, 1, none⟩ = some (.int .i64 t2) := fun w' h => h.cell (HY3.out.dr.cell (i := 1) rfl) HN1.out
    refine wp_region_reg (fun i => i = b) (by kernel_rfl) ?_
    apply wpR_next 0 (some 14)
    · simp only [List.getElem?_toArray, List.getElem?_cons_succ, List.getElem?_cons_zero]; exact rfl
    · rfl
    · kernel_rfl
    · kernel_rfl
    · kernel_rfl
    · exact fun _ _ _ _ h => h
    apply Exists.intro
    apply And.intro
    · apply yr_run; rfl; intro w' hw'; go_simp; (try with_reducible rfl)
    simp only [Act.put, List.setIfInBounds_toArray, List.set_cons_zero, List.set_cons_succ]
    apply wpR_next 1 (some 15)
    · simp only [List.getElem?_toArray, List.getElem?_cons_succ, List.getElem?_cons_zero]; exact rfl
    · rfl
    · kernel_rfl
    · kernel_rfl
    · kernel_rfl
    · exact fun _ _ _ _ h => h
    apply Exists.intro
    apply And.intro
    · apply yr_run; rfl; intro w' hw'; go_simp; (try with_reducible rfl)
    simp only [Act.put, List.setIfInBounds_toArray, List.set_cons_zero, List.set_cons_succ]
    apply wpR_next 2 (some 16)
    · simp only [List.getElem?_toArray, List.getElem?_cons_succ, List.getElem?_cons_zero]; exact rfl
    · rfl
    · kernel_rfl
    · kernel_rfl
    · kernel_rfl
    · exact fun _ _ _ _ h => h
    apply Exists.intro
    apply And.intro
    · apply yr_run; rfl; intro w' hw'; exact exec_slice_low_as 43 5 (.tmp 15) (.const (.int .i64 4)) rfl Try.underlying43 (s := 1) (by kernel_rfl) rfl rfl Hm4.out.1 HAr.out Hm4.out.2 rfl
    simp only [Act.put, List.setIfInBounds_toArray, List.set_cons_zero, List.set_cons_succ]
    apply wpR_call 3 (some 17)
    · simp only [List.getElem?_toArray, List.getElem?_cons_succ, List.getElem?_cons_zero]; exact rfl
    · rfl
    · kernel_rfl
    · rfl
    · intro w'; go_simp; first | done | exact ⟨rfl, rfl⟩ | with_reducible rfl
    intro w' hw'
    have hE := Ext.trans HDr.out hw'
    refine (HC1.out w' (Ext.trans HE3.out hE)).mono ?_
    rintro e w4 ⟨A4, c4, rfl, -, -, -, hb4⟩
    rw [Gr.out]
    refine ⟨_, rfl, Kept.of_below hb4, ?_⟩
    have HX4 := Lib.hid (HX3.out.bl (Ext.trans hE hb4))
    have HE4 : RowKit.Hid (Ext w w4) := Lib.hid (Ext.trans HE3.out (Ext.trans hE hb4))
    clear hE hb4 hw' ld0 ld1
    simp only [Act.put, List.setIfInBounds_toArray, List.set_cons_zero, List.set_cons_succ]
    apply wpR_store 4
    · simp only [List.getElem?_toArray, List.getElem?_cons_succ, List.getElem?_cons_zero]; exact rfl
    · rfl
    · kernel_rfl
    · rfl
    intro w' hw'
    refine ⟨w'.setRow b #[.int .i64 t1, .int .i64 t2], store_row_run 31 (.tmp 2) (.tmp 14) rfl b rfl [.int .i64 t1, .int .i64 t2] rfl 31 [.int .i64 0, .int .i64 0] (HX4.out.bl hw') (by kernel_rfl) rfl (by simp [Value.oneCell']), kept_setRow (S := fun i => i = b) w' b rfl _, ?_⟩
    have HX5 : RowKit.Hid (Whole (w'.setRow b #[.int .i64 t1, .int .i64 t2]) b 31 [.int .i64 t1, .int .i64 t2]) := Lib.hid (Whole.row (HX4.out.bl hw') [_, _])
    have HB5 : RowKit.Hid (Below w.heap.size w (w'.setRow b #[.int .i64 t1, .int .i64 t2])) := Lib.hid (below_row (Ext.trans HE4.out hw') (Nat.le_of_eq Gb.out) _)
    clear hw' 
    try simp only [Act.put, List.setIfInBounds_toArray, List.set_cons_zero, List.set_cons_succ]
    apply wpR_next 5 (some 3)
    · simp only [List.getElem?_toArray, List.getElem?_cons_succ, List.getElem?_cons_zero]; exact rfl
    · rfl
    · kernel_rfl
    · kernel_rfl
    · kernel_rfl
    · exact fun _ _ _ _ h => h
    apply Exists.intro
    apply And.intro
    · apply yr_run; rfl; intro w' hw'; go_simp; (try with_reducible rfl)
    simp only [Act.put, List.setIfInBounds_toArray, List.set_cons_zero, List.set_cons_succ]
    apply wpR_next 6 (some 4)
    · simp only [List.getElem?_toArray, List.getElem?_cons_succ, List.getElem?_cons_zero]; exact rfl
    · rfl
    · kernel_rfl
    · kernel_rfl
    · kernel_rfl
    · exact fun _ _ _ _ h => h
    apply Exists.intro
    apply And.intro
    · apply yr_run; rfl; intro w' hw'; go_simp; (try with_reducible rfl)
    simp only [Act.put, List.setIfInBounds_toArray, List.set_cons_zero, List.set_cons_succ]
    refine wpR_done (by kernel_rfl) ?_ _
    intro w10 hw10
    have HX9 := Lib.hid (HX5.out.bl hw10)
    have HB9 := Lib.hid (bel_bl HB5.out hw10)
    clear hw10
    go_wp2
    exact ret_whole3 rfl b rfl rfl rfl HX9.out Try.underlying31 rfl (by kernel_rfl) rfl ⟨A4, r, c4, true, rfl, HB9.out⟩

end Go.Proofs.Ytahbfdhjgnlmdaa

/- The reader: head. -/
namespace Go.Proofs.Ytahbfdhjgnlmdaa
open Go.RowKit
set_option linter.unusedSimpArgs false
set_option linter.unusedVariables false

theorem grown_setnew {w w1 : World} {r : Option Nat} (h : w.grownBy w1 r) {b : Nat} (hb : w.heap.size ≤ b) (i : Nat) (u : Value) : w.grownBy (w1.setCell ⟨b, i, none⟩ u) r := ⟨h.os, h.tape, h.output, by simpa using h.size, fun k hk hne => (heap_setCell_other w1 ⟨b, i, none⟩ k u (fun e => by have e2 : k = b := e; omega)).trans (h.block k hk hne)⟩
theorem RdAt.ext {lo : Nat} {w w' : World} {g : Nat} {R : List Nat} (h : RdAt lo w g R) (hb : Ext w w') : RdAt lo w' g R := by
  obtain ⟨A, n, c, h1, h2, h3⟩ := h
  exact ⟨A, n, c, h1.bl hb, h2.bl hb, h3⟩
theorem RdAt.set {lo : Nat} {w : World} {g b i : Nat} {R : List Nat} {t : TypeId} {cs : List Value} {v : Value} (h : RdAt lo w g R) (hx : Whole w b t cs) (ht : t ≠ 89) (hc : cs[i]? = some v) (hv : ∀ b : Nat, v ≠ .int .u8 (b : Int)) (u : Value) : RdAt lo (w.setCell ⟨b, i, none⟩ u) g R := by
  obtain ⟨A, n, c, h1, h2, h3⟩ := h
  refine ⟨A, n, c, h1.set_far' (h1.ne_ hx (Ne.symm ht)) u, ?_, h3⟩
  have h9 := rds_poke h2 (hx.cell hc) (fun q => by
    rw [rowsV_map8] at q
    obtain ⟨b, -, e⟩ := List.mem_map.1 q
    exact hv b e.symm) u
  have e : (w.setCell ⟨b, i, none⟩ u).heap.size = w.heap.size := by simp
  rw [e]
  exact h9
theorem RdAt.grown {lo : Nat} {w w' : World} {g : Nat} {R : List Nat} {r : Option Nat} (h : RdAt lo w g R) (hg : w.grownBy w' r) (hne : some g ≠ r) (hr : ∀ k, r = some k → lo ≤ k) : RdAt lo w' g R := by
  obtain ⟨A, n, c, h1, h2, h3, h4⟩ := h
  exact ⟨A, n, c, h1.grown hg hne, h2.grown hg (fun a ha hn e => by have := hr _ e.symm; have := h4 a ha hn; omega), h3, h4⟩
theorem nx_four (L : List Nat) : ∃ b0 b1 b2 b3, nx 4 L = [b0, b1, b2, b3] := by
  have h := nx_len 4 L
  match nx 4 L, h with
  | [a, b, c, d], _ => exact ⟨a, b, c, d, rfl⟩
set_option maxRecDepth 100000 in
set_option maxHeartbeats 4000000 in
theorem head_at (lo g : Nat) (L : List Nat) (w : World) (h : RdAt lo w g L) (hb : ∀ b ∈ L, b < 256) :
    Calls Try.prog 58 #[.pointer (some ⟨g, 0, none⟩)] w fun e w' => e = .returned (.tuple #[.agg #[.int .i64 (rdId L).1, .int .i64 (rdId L).2], .string (rdTx L), .int .i64 (rdAt L)]) ∧ RdAt lo w' g (rdH L) ∧ w.grownBy w' (some g) := by
  obtain ⟨b0, b1, b2, b3, e4⟩ := nx_four L
  have h4 := nx_lt hb 4
  rw [e4] at h4
  have HN4 := Lib.hid (fun W h => next_at lo g 4 L W h (by omega))
  rw [e4] at HN4
  have hid : rdId L = tk4 [b0, b1, b2, b3] := by unfold rdId; rw [e4]
  obtain ⟨t1, t2⟩ : True ∧ True := ⟨trivial, trivial⟩
  obtain ⟨⟨i1, i2⟩, gid⟩ : ∃ z, rdId L = z := ⟨_, rfl⟩
  rw [gid] at hid ⊢
  have HT := Lib.hid (fun A c W h => idtake_any A c b0 b1 b2 b3 [] W h (h4 b0 (by simp)) (h4 b1 (by simp)) (h4 b2 (by simp)) (h4 b3 (by simp)) (by simp))
  rw [← hid] at HT
  have hb1 : ∀ b ∈ L.drop 4, b < 256 := fun b q => hb b (List.mem_of_mem_drop q)
  have HC := Lib.hid (fun W h => count_at lo g (L.drop 4) W h hb1)
  have hc := byte_lt hb1
  have HN := Lib.hid (fun W h => next_at lo g (c1 (L.drop 4)) ((L.drop 4).drop 1) W h (by omega))
  have etx : rdTx L = txt (nx (c1 (L.drop 4)) ((L.drop 4).drop 1)) := rfl
  have el2 : ((L.drop 4).drop 1).drop (c1 (L.drop 4)) = rdL2 L := rfl
  rw [el2] at HN
  have hlen := nx_len (c1 (L.drop 4)) ((L.drop 4).drop 1)
  obtain ⟨c, gc⟩ : ∃ z, c1 (L.drop 4) = z := ⟨_, rfl⟩
  rw [gc] at HC HN etx hc hlen
  obtain ⟨M, gM⟩ : ∃ z, nx c ((L.drop 4).drop 1) = z := ⟨_, rfl⟩
  rw [gM] at HN etx hlen
  obtain ⟨tx, gtx⟩ : ∃ z, rdTx L = z := ⟨_, rfl⟩
  rw [gtx] at etx ⊢
  have HV : RowKit.Hid (∀ (A : Option Addr) (cc : Nat) W, RdS W W.heap.size 1 A c cc (rowsV f8 M) → (convert 43 9 (.slice A c cc)).run Try.prog W = .ok (.string tx) W) := Lib.hid (fun A cc W h => etx ▸ conv_txt h)
  have Hlen := Lib.hid hlen
  have hb2 : ∀ b ∈ rdL2 L, b < 256 := fun b q => hb1 b (List.mem_of_mem_drop (List.mem_of_mem_drop q))
  have HN8 := Lib.hid (fun W h => next_at lo g 8 (rdL2 L) W h (by omega))
  have h8 := nx_lt hb2 8
  have eat : num8 ((nx 8 (rdL2 L)).take 8) = rdAt L := by
    rw [List.take_of_length_le (by rw [nx_len]; omega)]
    rfl
  have er : (rdL2 L).drop 8 = rdH L := rfl
  rw [er] at HN8
  have HNu : RowKit.Hid (∀ (q : Nat) W, Whole W q 5 (rowsV f8 (nx 8 (rdL2 L))) → Calls Try.prog 39 #[.slice (some ⟨q, 0, none⟩) 8 8] W fun e w' => e = .returned (.int .i64 (rdAt L)) ∧ W = w') := Lib.hid (fun q W h => by
    have h9 := number_any (some ⟨q, 0, none⟩) 8 8 (nx 8 (rdL2 L)) W (RdS.of_whole8 h (by rw [rows8_len, nx_len])) (Nat.le_refl _) h8
    rw [eat] at h9
    exact h9)
  obtain ⟨N8, gN8⟩ : ∃ z, nx 8 (rdL2 L) = z := ⟨_, rfl⟩
  rw [gN8] at HN8 HNu
  obtain ⟨va, gva⟩ : ∃ z, rdAt L = z := ⟨_, rfl⟩
  rw [gva] at HNu ⊢
  obtain ⟨L2, gL2⟩ : ∃ z, rdL2 L = z := ⟨_, rfl⟩
  rw [gL2] at HN HN8
  obtain ⟨L3, gL3⟩ : ∃ z, rdH L = z := ⟨_, rfl⟩
  rw [gL3] at HN8 ⊢
  obtain ⟨R5, gR5⟩ : ∃ z, (L.drop 4).drop 1 = z := ⟨_, rfl⟩
  rw [gR5] at HC HN
  obtain ⟨R4, gR4⟩ : ∃ z, L.drop 4 = z := ⟨_, rfl⟩
  rw [gR4] at HC HN4
  have HRa := Lib.hid h
  have HX0 : RowKit.Hid (Whole (w.alloc (.cells #[.int .i64 0, .int .i64 0] 31)) w.heap.size 31 [.int .i64 0, .int .i64 0]) := Lib.hid (Whole.new_ _ _ [_, _])
  have HE0 : RowKit.Hid (Ext w (w.alloc (.cells #[.int .i64 0, .int .i64 0] 31))) := Lib.hid (below1 w _)
  clear h hb e4 h4 hid gid hb1 hc etx el2 hlen gc gM gtx hb2 h8 eat er gN8 gva gL2 gL3 gR5 gR4 t1 t2
  go_enter Try.func58, Try.ntmps58
  go_upto_region 1 with fail
  have HR0 := Lib.hid (HRa.out.ext HE0.out)
  obtain ⟨w0, gw0⟩ : ∃ z, w.alloc (.cells #[.int .i64 0, .int .i64 0] 31) = z := ⟨_, rfl⟩
  obtain ⟨b, gb⟩ : ∃ z, w.heap.size = z := ⟨_, rfl⟩
  rw [gw0] at HX0 HE0 HR0 ⊢
  rw [gb] at HX0 ⊢
  have Gb := Lib.hid gb
  clear gw0 gb HRa
  go_upto_region 2 with (first
    | (go_at_call 76
       refine (HN4.out _ HR0.out).mono ?_
       rintro e w1 ⟨q, rfl, hq, hwq, hra, hgr⟩
       have HR1 := Lib.hid hra
       have HX1 : RowKit.Hid (Whole w1 b 31 [.int .i64 0, .int .i64 0]) := Lib.hid (by
         obtain ⟨A, n, cc, q1, -⟩ := hra
         obtain ⟨A', n', cc', q2, -⟩ := HR0.out
         exact HX0.out.grown hgr (fun e => HX0.out.ne_ q2 (by decide) (Option.some.inj e)))
       have HG1 : RowKit.Hid (w.grownBy w1 (some g)) := Lib.hid (ext_grow HE0.out hgr)
       have HQ1 := Lib.hid (RdS.of_whole8 (n := 4) (size := 1) hwq rfl)
       clear hq hwq hra hgr)
    | (go_at_call 77
       refine (HT.out _ _ _ HQ1.out).mono ?_
       rintro e w2 ⟨A2, n2, c2, ok, rfl, hb2⟩
       have HR2 := Lib.hid (HR1.out.ext hb2)
       have HX2 := Lib.hid (HX1.out.bl hb2)
       have HG2 := Lib.hid (grown_ext HG1.out hb2)
       have q0 := HX2.out.cell (i := 0) rfl
       have q1 := HX2.out.cell (i := 1) rfl
       have f0 := HX2.out.free 0
       have f1 := HX2.out.free 1
       clear hb2))
  clear q0 q1 f0 f1 HX0 HE0 HR0 HR1 HX1 HG1 HQ1 HN4 HT
  have HX3 := Lib.hid ((HX2.out.set_ 0 (.int .i64 i1)).set_ 1 (.int .i64 i2))
  have HR3 := Lib.hid ((HR2.out.set (i := 0) HX2.out (by decide) rfl (fun b e => by cases e) (.int .i64 i1)).set (i := 1) (HX2.out.set_ 0 (.int .i64 i1)) (by decide) rfl (fun b e => by cases e) (.int .i64 i2))
  have HG3 := Lib.hid (grown_setnew (grown_setnew HG2.out (Nat.le_of_eq Gb.out) 0 (.int .i64 i1)) (Nat.le_of_eq Gb.out) 1 (.int .i64 i2))
  obtain ⟨w3, gw3⟩ : ∃ z, (w2.setCell ⟨b, 0, none⟩ (.int .i64 i1)).setCell ⟨b, 1, none⟩ (.int .i64 i2) = z := ⟨_, rfl⟩
  rw [gw3] at HX3 HR3 HG3 ⊢
  replace HX3 : RowKit.Hid (Whole w3 b 31 [.int .i64 i1, .int .i64 i2]) := HX3
  clear gw3 HX2 HR2 HG2
  go_upto_region 3 with (first
    | (go_at_call 57
       refine (HC.out _ HR3.out).mono ?_
       rintro e w4 ⟨rfl, hra, hgr⟩
       have HR4 := Lib.hid hra
       have HX4 : RowKit.Hid (Whole w4 b 31 [.int .i64 i1, .int .i64 i2]) := Lib.hid (by
         obtain ⟨A', n', cc', q2, -⟩ := HR3.out
         exact HX3.out.grown hgr (fun e => HX3.out.ne_ q2 (by decide) (Option.some.inj e)))
       have HG4 : RowKit.Hid (w.grownBy w4 (some g)) := Lib.hid (grown_two HG3.out hgr)
       clear hra hgr)
    | (go_at_call 76
       refine (HN.out _ HR4.out).mono ?_
       rintro e w5 ⟨q, rfl, hq, hwq, hra, hgr⟩
       have HR5 := Lib.hid hra
       have HX5 : RowKit.Hid (Whole w5 b 31 [.int .i64 i1, .int .i64 i2]) := Lib.hid (by
         obtain ⟨A', n', cc', q2, -⟩ := HR4.out
         exact HX4.out.grown hgr (fun e => HX4.out.ne_ q2 (by decide) (Option.some.inj e)))
       have HG5 : RowKit.Hid (w.grownBy w5 (some g)) := Lib.hid (grown_two HG4.out hgr)
       have hcv := HV.out _ _ _ (RdS.of_whole8 (n := c) hwq (by rw [rows8_len, Hlen.out, Nat.mul_one]))
       clear hq hwq hra hgr))
  clear hcv HX3 HR3 HG3 HX4 HR4 HG4 HC HN HV
  have Hgb : RowKit.Hid (b ≠ g) := Lib.hid (by
    obtain ⟨A', n', cc', q2, -⟩ := HR5.out
    exact HX5.out.ne_ q2 (by decide))
  have HDr : RowKit.Hid (Ext w5 w5.drew) := Lib.hid (below_drewN w5.heap.size w5 1)
  have ld0 : ∀ w', Kept (fun i => i = g) w5.drew w' → w'.cell? ⟨b, 0, none⟩ = some (.int .i64 i1) := fun w' h => h.cell (HX5.out.dr.cell (i := 0) rfl) Hgb.out
  have ld1 : ∀ w', Kept (fun i => i = g) w5.drew w' → w'.cell? ⟨b, 1, none⟩ = some (.int .i64 i2) := fun w' h => h.cell (HX5.out.dr.cell (i := 1) rfl) Hgb.out
  refine wp_region_reg (fun i => i = g) (by kernel_rfl) ?_
  apply wpR_next 0 (some 17)
  · simp only [List.getElem?_toArray, List.getElem?_cons_succ, List.getElem?_cons_zero]; exact rfl
  · rfl
  · kernel_rfl
  · kernel_rfl
  · kernel_rfl
  · exact fun _ _ _ _ h => h
  apply Exists.intro
  apply And.intro
  · apply yr_run; rfl; intro w' hw'; go_simp; (try with_reducible rfl)
  simp only [Act.put, List.setIfInBounds_toArray, List.set_cons_zero, List.set_cons_succ]
  apply wpR_next 1 (some 18)
  · simp only [List.getElem?_toArray, List.getElem?_cons_succ, List.getElem?_cons_zero]; exact rfl
  · rfl
  · kernel_rfl
  · kernel_rfl
  · kernel_rfl
  · exact fun _ _ _ _ h => h
  apply Exists.intro
  apply And.intro
  · apply yr_run; rfl; intro w' hw'; go_simp; (try with_reducible rfl)
  simp only [Act.put, List.setIfInBounds_toArray, List.set_cons_zero, List.set_cons_succ]
  apply wpR_next 2 (some 19)
  · simp only [List.getElem?_toArray, List.getElem?_cons_succ, List.getElem?_cons_zero]; exact rfl
  · rfl
  · kernel_rfl
  · kernel_rfl
  · kernel_rfl
  · exact fun _ _ _ _ h => h
  apply Exists.intro
  apply And.intro
  · apply yr_run; rfl; intro w' hw'; go_simp; (try with_reducible rfl)
  simp only [Act.put, List.setIfInBounds_toArray, List.set_cons_zero, List.set_cons_succ]
  apply wpR_call 3 (some 20)
  · simp only [List.getElem?_toArray, List.getElem?_cons_succ, List.getElem?_cons_zero]; exact rfl
  · rfl
  · kernel_rfl
  · rfl
  · intro w'; go_simp; first | done | exact ⟨rfl, rfl⟩ | with_reducible rfl
  intro w' hw'
  have hE := Ext.trans HDr.out hw'
  refine (HN8.out w' (HR5.out.ext hE)).mono ?_
  rintro e w6 ⟨q, rfl, hq, hwq, hra, hgr⟩
  refine ⟨_, rfl, kept_grow hgr (fun i e => Option.some.inj e), ?_⟩
  have HR6 := Lib.hid hra
  have HX6 := Lib.hid ((HX5.out.bl hE).grown hgr (fun e => Hgb.out (Option.some.inj e)))
  have HG6 : RowKit.Hid (w.grownBy w6 (some g)) := Lib.hid (grown_two (grown_ext HG5.out hE) hgr)
  have HQ6 := Lib.hid hwq
  clear hE hw' hq hwq hra hgr ld0 ld1
  simp only [Act.put, List.setIfInBounds_toArray, List.set_cons_zero, List.set_cons_succ]
  apply wpR_call 4 (some 21)
  · simp only [List.getElem?_toArray, List.getElem?_cons_succ, List.getElem?_cons_zero]; exact rfl
  · rfl
  · kernel_rfl
  · rfl
  · intro w'; go_simp; first | done | exact ⟨rfl, rfl⟩ | with_reducible rfl
  intro w' hw'
  refine (HNu.out q w' (HQ6.out.bl hw')).mono ?_
  rintro e w7 ⟨rfl, rfl⟩
  refine ⟨_, rfl, Kept.refl _ _, ?_⟩
  have HR7 := Lib.hid (HR6.out.ext hw')
  have HX7 := Lib.hid (HX6.out.bl hw')
  have HG7 := Lib.hid (grown_ext HG6.out hw')
  clear hw' 
  simp only [Act.put, List.setIfInBounds_toArray, List.set_cons_zero, List.set_cons_succ]
  apply wpR_store 5
  · simp only [List.getElem?_toArray, List.getElem?_cons_succ, List.getElem?_cons_zero]; exact rfl
  · rfl
  · kernel_rfl
  · rfl
  intro w' hw'
  have hxw := HX7.out.bl hw'
  refine ⟨w'.setRow b #[.int .i64 i1, .int .i64 i2], store_row_run 31 (.tmp 2) (.tmp 17) rfl b rfl [.int .i64 i1, .int .i64 i2] rfl 31 [.int .i64 i1, .int .i64 i2] hxw (by kernel_rfl) rfl (by simp [Value.oneCell']), ?_⟩
  rw [show w'.setRow b #[.int .i64 i1, .int .i64 i2] = w' from setRow_self w' b _ 31 (0, 0) hxw]
  refine ⟨Kept.refl _ _, ?_⟩
  have HR8 := Lib.hid (HR7.out.ext hw')
  have HX8 := Lib.hid hxw
  have HG8 := Lib.hid (grown_ext HG7.out hw')
  clear hw' hxw
  try simp only [Act.put, List.setIfInBounds_toArray, List.set_cons_zero, List.set_cons_succ]
  apply wpR_next 6 (some 3)
  · simp only [List.getElem?_toArray, List.getElem?_cons_succ, List.getElem?_cons_zero]; exact rfl
  · rfl
  · kernel_rfl
  · kernel_rfl
  · kernel_rfl
  · exact fun _ _ _ _ h => h
  apply Exists.intro
  apply And.intro
  · apply yr_run; rfl; intro w' hw'; go_simp; (try with_reducible rfl)
  simp only [Act.put, List.setIfInBounds_toArray, List.set_cons_zero, List.set_cons_succ]
  apply wpR_next 7 (some 4)
  · simp only [List.getElem?_toArray, List.getElem?_cons_succ, List.getElem?_cons_zero]; exact rfl
  · rfl
  · kernel_rfl
  · kernel_rfl
  · kernel_rfl
  · exact fun _ _ _ _ h => h
  apply Exists.intro
  apply And.intro
  · apply yr_run; rfl; intro w' hw'; go_simp; (try with_reducible rfl)
  simp only [Act.put, List.setIfInBounds_toArray, List.set_cons_zero, List.set_cons_succ]
  refine wpR_done (by kernel_rfl) ?_ _
  intro w9 hw9
  have HX9 := Lib.hid (HX8.out.bl hw9)
  have HR9 := Lib.hid (HR8.out.ext hw9)
  have HG9 := Lib.hid (grown_ext HG8.out hw9)
  clear hw9
  go_wp2
  exact ret_whole3 rfl b rfl rfl rfl HX9.out Try.underlying31 rfl (by kernel_rfl) rfl ⟨rfl, HR9.out, HG9.out⟩

end Go.Proofs.Ytahbfdhjgnlmdaa

/- The reader: dart. -/
namespace Go.Proofs.Ytahbfdhjgnlmdaa
open Go.RowKit
set_option linter.unusedSimpArgs false
set_option linter.unusedVariables false

set_option maxRecDepth 100000 in
set_option maxHeartbeats 4000000 in
theorem dart_at (lo g : Nat) (L : List Nat) (B : Option Addr) (m k : Nat) (Es : List EC) (w : World) (h : RdAt lo w g L) (hb : ∀ b ∈ L, b < 256) (he : RdS w w.heap.size 4 B m k (rowsV eC Es)) (hB : ∀ a, B = some a → 0 < m → a.block ≠ g) :
    Calls Try.prog 59 #[.pointer (some ⟨g, 0, none⟩), .slice B m k] w fun e w' => e = .returned (.agg #[.int .i64 (rdD Es (c1 L)).1, .int .i64 (rdD Es (c1 L)).2.1, .int .i64 (rdD Es (c1 L)).2.2]) ∧ RdAt lo w' g (L.drop 1) ∧ w.grownBy w' (some g) := by
  have HC := Lib.hid (fun W h => count_at lo g L W h hb)
  have hc := byte_lt hb
  have hl := he.rlen eC_len (by decide)
  obtain ⟨c, gc⟩ : ∃ z, c1 L = z := ⟨_, rfl⟩
  rw [gc] at HC hc ⊢
  obtain ⟨cm, gcm⟩ : ∃ z, c % 128 = z := ⟨_, rfl⟩
  obtain ⟨cq, gcq⟩ : ∃ z, c / 128 = z := ⟨_, rfl⟩
  have m1 : (c : Int) % 128 = (cm : Int) := by omega
  have m2 : (c : Int).tmod 128 = (cm : Int) := by rw [Int.tmod_eq_emod_of_nonneg (by omega)]; exact m1
  have m3 : (c : Int) / 128 = (cq : Int) := by omega
  have m4 : (c : Int).tdiv 128 = (cq : Int) := by rw [Int.tdiv_eq_ediv_of_nonneg (by omega)]; exact m3
  have m5 : IntKind.i64.wrap (cm : Int) = (cm : Int) := IntWalk.i64_in _ (by omega)
  have m6 : IntKind.i64.wrap (cq : Int) = (cq : Int) := IntWalk.i64_in _ (by omega)
  have hd : rdD Es c = match Es[cm]? with | some e => (e.1.1, e.1.2, (cq : Int)) | none => (0, 0, 0) := by unfold rdD; rw [gcm, gcq]; cases Es[cm]? <;> rfl
  obtain ⟨⟨d1, d2, d3⟩, gd⟩ : ∃ z, rdD Es c = z := ⟨_, rfl⟩
  rw [gd] at hd ⊢
  have Hd := Lib.hid hd
  obtain ⟨R, gR⟩ : ∃ z, L.drop 1 = z := ⟨_, rfl⟩
  rw [gR] at HC ⊢
  have HRa := Lib.hid h
  have HE := Lib.hid he
  have HBg := Lib.hid hB
  have Hl := Lib.hid hl
  have HX0 : RowKit.Hid (Whole (w.alloc (.cells #[.int .i64 0, .int .i64 0, .int .i64 0] 35)) w.heap.size 35 [.int .i64 0, .int .i64 0, .int .i64 0]) := Lib.hid (Whole.new_ _ _ [_, _, _])
  have HE0 : RowKit.Hid (Ext w (w.alloc (.cells #[.int .i64 0, .int .i64 0, .int .i64 0] 35))) := Lib.hid (below1 w _)
  clear h hb he hB hl gc gcm gcq hd gd gR
  go_enter Try.func59, Try.ntmps59
  go_upto_region 1 with fail
  have HR0 := Lib.hid (HRa.out.ext HE0.out)
  have HEa := Lib.hid (HE.out.bl HE0.out)
  obtain ⟨w0, gw0⟩ : ∃ z, w.alloc (.cells #[.int .i64 0, .int .i64 0, .int .i64 0] 35) = z := ⟨_, rfl⟩
  obtain ⟨b, gb⟩ : ∃ z, w.heap.size = z := ⟨_, rfl⟩
  rw [gw0] at HX0 HE0 HR0 HEa ⊢
  rw [gb] at HX0 ⊢
  have Gb := Lib.hid gb
  clear gw0 gb HRa HE
  go_upto_region 2 with (first
    | (go_at_call 57
       refine (HC.out _ HR0.out).mono ?_
       rintro e w1 ⟨rfl, hra, hgr⟩
       have HR1 := Lib.hid hra
       have HX1 : RowKit.Hid (Whole w1 b 35 [.int .i64 0, .int .i64 0, .int .i64 0]) := Lib.hid (by
         obtain ⟨A', n', cc', q2, -⟩ := HR0.out
         exact HX0.out.grown hgr (fun e => HX0.out.ne_ q2 (by decide) (Option.some.inj e)))
       have HG1 : RowKit.Hid (w.grownBy w1 (some g)) := Lib.hid (ext_grow HE0.out hgr)
       have HE1 : RowKit.Hid (RdS w1 w1.heap.size 4 B m k (rowsV eC Es)) := Lib.hid (HEa.out.grown hgr (fun a ha hm e => HBg.out a ha hm (Option.some.inj e)))
       clear hra hgr))
  clear HX0 HE0 HR0 HEa HC
  have f0 := HX1.out.free 0
  have f1 := HX1.out.free 1
  have f2 := HX1.out.free 2
  have z0 := HX1.out.cell (i := 0) rfl
  have z1 := HX1.out.cell (i := 1) rfl
  have z2 := HX1.out.cell (i := 2) rfl
  by_cases hlt : cm < m
  · obtain ⟨e, hx⟩ : ∃ e, Es[cm]? = some e := ⟨_, List.getElem?_eq_getElem (by have := Hl.out; omega)⟩
    obtain ⟨eb, eo, gB, -, -⟩ := HE1.out.place eC_len (by decide) (by omega)
    subst gB
    have l0 := HE1.out.elem eC_len hx 0 _ rfl
    have l1 := HE1.out.elem eC_len hx 1 _ rfl
    simp only [Addr.add_lit, Nat.add_zero] at l0 l1
    obtain ⟨⟨e1, e2⟩, el, et⟩ := e
    have hd := Hd.out
    rw [hx] at hd
    injection hd with a1 a2
    injection a2 with a2 a3
    simp only at a1 a2
    subst a1 a2 a3
    have t1 : decide ((m : Int) ≤ (cm : Int)) = false := decide_eq_false (by omega)
    have t2 : decide (m ≤ cm) = false := decide_eq_false (by omega)
    have t3 : (cm : Int) < (m : Int) := by omega
    clear hx
    go_wp2
    have HXz := ((HX1.out.set_ 0 (.int .i64 d1)).set_ 1 (.int .i64 d2)).set_ 2 (.int .i64 (cq : Int))
    have HRz := ((HR1.out.set (i := 0) HX1.out (by decide) rfl (fun b e => by cases e) (.int .i64 d1)).set (i := 1) (HX1.out.set_ 0 (.int .i64 d1)) (by decide) rfl (fun b e => by cases e) (.int .i64 d2)).set (i := 2) ((HX1.out.set_ 0 (.int .i64 d1)).set_ 1 (.int .i64 d2)) (by decide) rfl (fun b e => by cases e) (.int .i64 (cq : Int))
    have HGz := grown_setnew (grown_setnew (grown_setnew HG1.out (Nat.le_of_eq Gb.out) 0 (.int .i64 d1)) (Nat.le_of_eq Gb.out) 1 (.int .i64 d2)) (Nat.le_of_eq Gb.out) 2 (.int .i64 (cq : Int))
    exact ret_whole rfl b rfl HXz Try.underlying35 rfl (by kernel_rfl) rfl ⟨rfl, HRz, HGz⟩
  · have hx : Es[cm]? = none := List.getElem?_eq_none (by have := Hl.out; omega)
    have hd := Hd.out
    rw [hx] at hd
    injection hd with a1 a2
    injection a2 with a2 a3
    subst a1 a2 a3
    have t1 : decide ((m : Int) ≤ (cm : Int)) = true := decide_eq_true (by omega)
    have t2 : decide (m ≤ cm) = true := decide_eq_true (by omega)
    clear hx
    go_wp2
    have HXz := ((HX1.out.set_ 0 (.int .i64 0)).set_ 1 (.int .i64 0)).set_ 2 (.int .i64 0)
    have HRz := ((HR1.out.set (i := 0) HX1.out (by decide) rfl (fun b e => by cases e) (.int .i64 0)).set (i := 1) (HX1.out.set_ 0 (.int .i64 0)) (by decide) rfl (fun b e => by cases e) (.int .i64 0)).set (i := 2) ((HX1.out.set_ 0 (.int .i64 0)).set_ 1 (.int .i64 0)) (by decide) rfl (fun b e => by cases e) (.int .i64 0)
    have HGz := grown_setnew (grown_setnew (grown_setnew HG1.out (Nat.le_of_eq Gb.out) 0 (.int .i64 0)) (Nat.le_of_eq Gb.out) 1 (.int .i64 0)) (Nat.le_of_eq Gb.out) 2 (.int .i64 0)
    exact ret_whole rfl b rfl HXz Try.underlying35 rfl (by kernel_rfl) rfl ⟨rfl, HRz, HGz⟩

end Go.Proofs.Ytahbfdhjgnlmdaa

/- pack.read: what it keeps while it goes. -/
namespace Go.Proofs.Ytahbfdhjgnlmdaa
open Go.RowKit
set_option linter.unusedSimpArgs false
set_option linter.unusedVariables false

structure Rs (w W : World) (b0 g d : Nat) (cs : List Value) (R : List Nat) : Prop where
  b : Below w.heap.size w W
  x0 : Whole W b0 25 [.slice none 0 0, .slice none 0 0]
  x2 : Whole W d 25 cs
  r : RdAt w.heap.size W g R
  n : b0 ≠ d ∧ w.heap.size ≤ g ∧ w.heap.size ≤ d ∧ w.heap.size ≤ b0
theorem RdAt.whole {lo : Nat} {w : World} {g : Nat} {R : List Nat} (h : RdAt lo w g R) : ∃ cs, Whole w g 89 cs := by
  obtain ⟨A, n, c, h1, -⟩ := h
  exact ⟨_, h1⟩
section
variable {w W W' : World} {b0 g d : Nat} {cs : List Value} {R R' : List Nat}
theorem Rs.bl (h : Rs w W b0 g d cs R) (hb : Ext W W') : Rs w W' b0 g d cs R := ⟨bel_bl h.b hb, h.x0.bl hb, h.x2.bl hb, h.r.ext hb, h.n⟩
theorem Rs.al (h : Rs w W b0 g d cs R) (o : Obj) : Rs w (W.alloc o) b0 g d cs R := h.bl (below1 W o)
theorem Rs.call (h : Rs w W b0 g d cs R) (hr : RdAt w.heap.size W' g R') (hg : W.grownBy W' (some g)) : Rs w W' b0 g d cs R' := by
  obtain ⟨c0, hw⟩ := h.r.whole
  exact ⟨Below.grown h.b hg h.b.size (fun k e => by obtain rfl := Option.some.inj e; exact h.n.2.1), h.x0.grown hg (fun e => h.x0.ne_ hw (by decide) (Option.some.inj e)), h.x2.grown hg (fun e => h.x2.ne_ hw (by decide) (Option.some.inj e)), hr, h.n⟩
theorem Rs.own (h : Rs w W b0 g d cs R) {T : TypeId} {A : Option Addr} {n c k lo : Nat} {xs : List Value} (ho : W.ownsRow lo T k (.slice A n c) n xs) (hlo : w.heap.size ≤ lo) (h1 : 25 ≠ T) (h2 : 89 ≠ T) (hg : W.grownBy W' (Value.slice A n c).ownBlock) : Rs w W' b0 g d cs R := by
  obtain ⟨c0, hw⟩ := h.r.whole
  exact ⟨Below.grown h.b hg h.b.size (fun kk e => Nat.le_trans hlo (ho.lt kk e).1), h.x0.grown hg (own_ne ho h.x0 h1), h.x2.grown hg (own_ne ho h.x2 h1), h.r.grown hg (own_ne ho hw h2) (fun kk e => Nat.le_trans hlo (ho.lt kk e).1), h.n⟩
theorem Rs.setd (h : Rs w W b0 g d cs R) (i : Nat) {v : Value} (hc : cs[i]? = some v) (hv : ∀ b : Nat, v ≠ .int .u8 (b : Int)) (u : Value) : Rs w (W.setCell ⟨d, i, none⟩ u) b0 g d (cs.set i u) R :=
  ⟨h.b.setCell (p := ⟨d, i, none⟩) h.n.2.2.1 u, h.x0.set_far' h.n.1 u, h.x2.set_ i u, h.r.set h.x2 (by decide) hc hv u, h.n⟩
theorem Rs.setx (h : Rs w W b0 g d cs R) {x i : Nat} {t : TypeId} {cx : List Value} (hx : Whole W x t cx) (h1 : t ≠ 25) (h2 : t ≠ 89) (hlo : w.heap.size ≤ x) {v : Value} (hc : cx[i]? = some v) (hv : ∀ b : Nat, v ≠ .int .u8 (b : Int)) (u : Value) : Rs w (W.setCell ⟨x, i, none⟩ u) b0 g d cs R :=
  ⟨h.b.setCell (p := ⟨x, i, none⟩) hlo u, h.x0.set_far' (h.x0.ne_ hx (Ne.symm h1)) u, h.x2.set_far' (h.x2.ne_ hx (Ne.symm h1)) u, h.r.set hx h2 hc hv u, h.n⟩
theorem own_call {T : TypeId} {A : Option Addr} {n c k lo q : Nat} {xs cs : List Value} {T' : TypeId} {r : Option Nat} (ho : W.ownsRow lo T k (.slice A n c) n xs) (hg : W.grownBy W' r) (hne : r ≠ (Value.slice A n c).ownBlock) : W'.ownsRow lo T k (.slice A n c) n xs := ho.kept hg (.inr (Ne.symm hne))
theorem ClS.grow {lo : Nat} {A : Option Addr} {n c : Nat} {Ws : List VC} {B : Option Addr} {m k : Nat} {Es : List EC} {r : Option Nat} (h : ClS W lo A n c Ws B m k Es) (hg : W.grownBy W' r) (hv : (Value.slice A n c).ownBlock = none ∨ (Value.slice A n c).ownBlock ≠ r) (he : (Value.slice B m k).ownBlock = none ∨ (Value.slice B m k).ownBlock ≠ r) (hr : ∀ x ∈ Ws, (Value.slice x.2.1.1 x.2.1.2.1 x.2.1.2.2.1).ownBlock = none ∨ (Value.slice x.2.1.1 x.2.1.2.1 x.2.1.2.2.1).ownBlock ≠ r) : ClS W' lo A n c Ws B m k Es :=
  ⟨h.v.kept hg hv, h.e.kept hg he, fun x hx => (h.r x hx).kept hg (hr x hx)⟩
theorem keep2 {lo lo' k k' n n' : Nat} {T T' : TypeId} {v v' : Value} {xs xs' : List Value} (h : W.ownsRow lo T k v n xs) (h' : W.ownsRow lo' T' k' v' n' xs') (hT : T ≠ T') : v'.ownBlock = none ∨ v'.ownBlock ≠ v.ownBlock := by
  cases hv : v'.ownBlock with
  | none => exact .inl rfl
  | some g => exact .inr fun q => own_two h h' hT q.symm hv
theorem ClS.call {lo : Nat} {A : Option Addr} {n c : Nat} {Ws : List VC} {B : Option Addr} {m k q : Nat} {Es : List EC} {T : TypeId} {cx : List Value} (h : ClS W lo A n c Ws B m k Es) (hg : W.grownBy W' (some q)) (hx : Whole W q T cx) (h1 : T ≠ 38) (h2 : T ≠ 33) (h3 : T ≠ 35) : ClS W' lo A n c Ws B m k Es :=
  h.grow hg (.inr (Ne.symm (own_ne h.v hx h1))) (.inr (Ne.symm (own_ne h.e hx h2))) (fun x hxm => .inr (Ne.symm (own_ne (h.r x hxm) hx h3)))
end
/-- An edge appended onto a row of one's own. -/
theorem appE {w W : World} {A A' : Option Addr} {n c c' : Nat} {X : List EC} {e : EC} (ty : TypeId) (ho : Ow w w.heap.size 33 4 (.slice A n c) n (rowsV eC X) W) (hr : RdS W W.heap.size 4 A' 1 c' (eC e)) (hn : n ≤ 100000) :
    ∃ A2 c2 W', (Builtin.append_ #[23, 23] ty #[.slice A n c, .slice A' 1 c']).run Try.prog W = .ok (.slice A2 (n + 1) c2) W' ∧ Ow w w.heap.size 33 4 (.slice A2 (n + 1) c2) (n + 1) (rowsV eC (X ++ [e])) W' ∧ W.grownBy W' (Value.slice A n c).ownBlock := by
  obtain ⟨i0, hi, hz0, hz1, hz2⟩ := info_partsD info_edge
  obtain ⟨v', W', h1, h2, h3, h4, h5⟩ := Ow.app2 (P := Try.prog) 23 ty 33 i0 _ 4 40 _ Try.underlying23 hi hz0 hz1 hz2 rfl (by decide) _ _ _ ho _ A' 1 c' _ hr (eC_one e) (by unfold maxLen; omega) (by omega)
  have e1 : rowsV eC X ++ eC e = rowsV eC (X ++ [e]) := by rw [rowsV_app]; simp [rowsV]
  rw [e1] at h2
  obtain ⟨A2, c2, rfl, -⟩ := h2.rds
  exact ⟨A2, c2, W', h1, h2, h4⟩
/-- A dart appended onto a row of one's own. -/
theorem appD {W : World} {lo : Nat} {A A' : Option Addr} {n c c' : Nat} {X : List D} {d1 d2 d3 : Int} (ty : TypeId) (hlo : lo ≤ W.heap.size) (ho : W.ownsRow lo 35 3 (.slice A n c) n (dartsV X)) (hr : RdS W W.heap.size 3 A' 1 c' [.int .i64 d1, .int .i64 d2, .int .i64 d3]) (hn : n ≤ 100000) :
    ∃ A2 c2 W', (Builtin.append_ #[36, 36] ty #[.slice A n c, .slice A' 1 c']).run Try.prog W = .ok (.slice A2 (n + 1) c2) W' ∧ W'.ownsRow lo 35 3 (.slice A2 (n + 1) c2) (n + 1) (dartsV (X ++ [(d1, d2, d3)])) ∧ W.grownBy W' (Value.slice A n c).ownBlock := by
  obtain ⟨i0, hi, hz0, hz1, hz2⟩ := info_partsD info_dartc
  cases A' with
  | none => have := (hr.none_ rfl).1; omega
  | some a =>
    obtain ⟨v', W2, hrun, hown, hg, hn0, hb⟩ := run_append_own_at (P := Try.prog) W lo 36 ty 35 i0 _ 3 24 Try.underlying36 hi hz0 hz1 hz2 rfl (by decide) _ n _ ho a 1 c' _ hr.len (hr.cell _ rfl) (by simp [Value.oneCell']) (by unfold maxLen; omega) (by omega) hlo
    have e1 : dartsV X ++ [.int .i64 d1, .int .i64 d2, .int .i64 d3] = dartsV (X ++ [(d1, d2, d3)]) := by rw [dartsV_rows, dartsV_rows, rowsV_app]; rfl
    rw [e1] at hown
    obtain ⟨A2, c2, rfl, -⟩ := RdS.of_own hown
    exact ⟨A2, c2, W2, hrun, hown, hg⟩
theorem nx_get {k t : Nat} (L : List Nat) (h : t < k) : (nx k L)[t]? = some (c1 (L.drop t)) := by
  unfold nx c1
  rw [List.getElem?_take, if_pos h]
  by_cases hl : t < L.length
  · rw [List.getElem?_append_left hl, List.headD_eq_head?_getD, List.head?_drop, List.getElem?_eq_getElem hl]
    rfl
  · rw [List.getElem?_append_right (by omega), List.getElem?_replicate, if_pos (by omega), List.drop_eq_nil_of_le (by omega)]
    rfl

end Go.Proofs.Ytahbfdhjgnlmdaa
