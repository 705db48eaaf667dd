/- Clone. -/
import Derived.Test.YtdhglhcpgmfpoaaDg15
import Derived.Test.YtdhglhcpgmfpoaaBase
namespace Go.Proofs.Ytdhglhcpgmfpoaa
open Go.RowKit
set_option linter.unusedSimpArgs false
set_option linter.unusedVariables false


/-- Rings of one's own, each behind the one ahead, from block lo on. -/
structure RgsOwn (W : World) (lo : Nat) (Ws : List VC) : Prop where
  own : ∀ x ∈ Ws, W.ownsRow lo 36 3 (.slice x.2.1.1 x.2.1.2.1 x.2.1.2.2.1) x.2.1.2.1 (dartsV x.2.1.2.2.2)
  rise : ∀ (i j : Nat) (x y : VC) (a b : Addr), i < j → Ws[i]? = some x → Ws[j]? = some y → x.2.1.1 = some a → y.2.1.1 = some b → a.block < b.block
/-- A diagram of one's own. -/
structure Cl (W : World) (lo : Nat) (A : Option Addr) (n c : Nat) (Ws : List VC) (B : Option Addr) (m k : Nat) (Es : List EC) : Prop where
  v : W.ownsRow lo 39 5 (.slice A n c) n (rowsV vC Ws)
  e : W.ownsRow lo 43 4 (.slice B m k) m (rowsV eC Es)
  r : RgsOwn W lo Ws
theorem Cl.dg {W : World} {lo : Nat} {A : Option Addr} {n c : Nat} {Ws : List VC} {B : Option Addr} {m k : Nat} {Es : List EC} (h : Cl W lo A n c Ws B m k Es) : DgIn W A n c Ws B m k Es :=
  ⟨own_rds h.v, own_rds h.e, fun x hx => ⟨own_cap (h.r.own x hx), own_rds (h.r.own x hx)⟩⟩
theorem RgsOwn.up {W W' : World} {lo : Nat} {Ws : List VC} (h : RgsOwn W lo Ws) (hb : Below W.heap.size W W') : RgsOwn W' lo Ws :=
  ⟨fun x hx => own_up (h.own x hx) hb, h.rise⟩
theorem Cl.up {W W' : World} {lo : Nat} {A : Option Addr} {n c : Nat} {Ws : List VC} {B : Option Addr} {m k : Nat} {Es : List EC} (h : Cl W lo A n c Ws B m k Es) (hb : Below W.heap.size W W') : Cl W' lo A n c Ws B m k Es :=
  ⟨own_up h.v hb, own_up h.e hb, h.r.up hb⟩
theorem RgsOwn.cells {W : World} {lo g : Nat} {Ws : List VC} {T : TypeId} {cs : List Value} (h : RgsOwn W lo Ws) (hw : Whole W g T cs) (hT : T ≠ 36) (o : Nat) (vs : List Value) : RgsOwn (W.setCells g o vs) lo Ws :=
  ⟨fun x hx => own_cells_far (h.own x hx) (own_ne (h.own x hx) hw hT) o vs, h.rise⟩
theorem RgsOwn.nil_ (W : World) (lo : Nat) : RgsOwn W lo [] := ⟨fun x hx => (by cases hx), fun i j x y a b _ h => (by simp at h)⟩
theorem RgsOwn.snoc {W : World} {lo lo' : Nat} {Ws : List VC} {x : VC} (h : RgsOwn W lo Ws) (hx : W.ownsRow lo' 36 3 (.slice x.2.1.1 x.2.1.2.1 x.2.1.2.2.1) x.2.1.2.1 (dartsV x.2.1.2.2.2)) (hl : lo ≤ lo') (hn : ∀ y ∈ Ws, ∀ a, y.2.1.1 = some a → a.block < lo') : RgsOwn W lo (Ws ++ [x]) := by
  refine ⟨fun y hy => ?_, fun i j u v a b hij hu hv ha hb => ?_⟩
  · rcases List.mem_append.1 hy with hy | hy
    · exact h.own y hy
    · obtain rfl := List.mem_singleton.1 hy
      exact own_lo' hx hl
  · have hj : j < (Ws ++ [x]).length := (List.getElem?_eq_some_iff.1 hv).1
    rw [List.length_append] at hj
    have hj' : j < Ws.length + 1 := hj
    rw [List.getElem?_append_left (by omega)] at hu
    rcases Nat.lt_or_ge j Ws.length with h1 | h1
    · rw [List.getElem?_append_left h1] at hv
      exact h.rise i j u v a b hij hu hv ha hb
    · obtain rfl : j = Ws.length := by omega
      rw [List.getElem?_append_right (Nat.le_refl _), Nat.sub_self] at hv
      obtain rfl : x = v := by simpa using hv
      have h2 := hn u (List.mem_of_getElem? hu) a ha
      have h3 := (own_lt hx hb).1
      omega
theorem set_front {α : Type} (Ws Vs : List α) (j : Nat) (x y : α) (hl : Ws.length = j) (hx : Vs[j]? = some x) : (Ws ++ Vs.drop j).set j y = (Ws ++ [y]) ++ Vs.drop (j + 1) := by
  have hdr : Vs.drop j = x :: Vs.drop (j + 1) := by
    rw [List.drop_eq_getElem_cons (List.getElem?_eq_some_iff.1 hx).1, (List.getElem?_eq_some_iff.1 hx).2]
  rw [hdr, List.set_append_right _ _ (by omega), hl, Nat.sub_self, List.set_cons_zero, List.append_assoc]
  rfl
/-- The new row of vertices, in the second region of Clone. -/
def gam (w : World) (b0 : Nat) (A : Option Addr) (n c : Nat) (Vs : List VC) (B : Option Addr) (m k : Nat) (Es : List EC) : Nat → Value → World → Prop
  | 0, v, _ => v = .pointer (some ⟨b0, 0, none⟩)
  | 1, v, _ => v = .slice A n c
  | 2, v, W => ∃ A' c', v = .slice A' n c' ∧ W.ownsRow w.heap.size 39 5 (.slice A' n c') n (rowsV vC Vs)
  | 3, v, _ => v = .pointer (some ⟨b0, 1, none⟩)
  | 4, v, _ => v = .slice B m k
  | 5, v, W => ∃ B' k', v = .slice B' m k' ∧ W.ownsRow w.heap.size 43 4 (.slice B' m k') m (rowsV eC Es)
  | 6, v, W => ∃ A' c' B' k', v = .agg #[.slice A' n c', .slice B' m k'] ∧ W.ownsRow w.heap.size 39 5 (.slice A' n c') n (rowsV vC Vs) ∧ W.ownsRow w.heap.size 43 4 (.slice B' m k') m (rowsV eC Es)
  | 7, v, W => ∃ g, v = .pointer (some ⟨g, 0, none⟩) ∧ w.heap.size + 1 < g ∧ Whole W g 25 [.slice none 0 0, .slice none 0 0]
  | _, _, _ => True
theorem gam_up {w : World} {b0 : Nat} {A : Option Addr} {n c : Nat} {Vs : List VC} {B : Option Addr} {m k : Nat} {Es : List EC} : ∀ (i : Nat) (v : Value) (W W' : World), gam w b0 A n c Vs B m k Es i v W → Ext W W' → gam w b0 A n c Vs B m k Es i v W'
  | 0, _, _, _, h, _ => h
  | 1, _, _, _, h, _ => h
  | 2, _, _, _, ⟨A', c', e, h⟩, hx => ⟨A', c', e, own_up h hx⟩
  | 3, _, _, _, h, _ => h
  | 4, _, _, _, h, _ => h
  | 5, _, _, _, ⟨A', c', e, h⟩, hx => ⟨A', c', e, own_up h hx⟩
  | 6, _, _, _, ⟨A', c', B', k', e, h1, h2⟩, hx => ⟨A', c', B', k', e, own_up h1 hx, own_up h2 hx⟩
  | 7, _, _, _, ⟨g, e, h1, h2⟩, hx => ⟨g, e, h1, h2.bl hx⟩
  | _ + 8, _, _, _, _, _ => trivial
set_option maxRecDepth 100000 in
set_option maxHeartbeats 4000000 in
theorem clone_any (A : Option Addr) (n c : Nat) (Vs : List VC) (B : Option Addr) (m k : Nat) (Es : List EC) (w : World) (h : DgIn w A n c Vs B m k Es) (hn : n ≤ 1000000) (hm : m ≤ 1000000) (hr : ∀ x ∈ Vs, x.2.1.2.1 ≤ 1000000) :
    Calls Try.prog 28 #[.agg #[.slice A n c, .slice B m k]] w fun e w' => ∃ A' c' B' k' Ws, e = .returned (.agg #[.slice A' n c', .slice B' m k']) ∧ Cl w' w.heap.size A' n c' Ws B' m k' Es ∧ Ws.map vS = Vs.map vS ∧ Below w.heap.size w w' := by
  have HRg := Lib.hid h.r
  have Hhr := Lib.hid hr
  have Hl := Lib.hid (h.v.rlen vC_len (by decide))
  have HCv := Lib.hid (fun W (hb : Below w.heap.size w W) => cloneVs A n c (rowsV vC Vs) W (h.v.bl hb) (rowsV_one vC vC_one Vs) hn)
  have HCe := Lib.hid (fun W (hb : Below w.heap.size w W) => cloneEs B m k (rowsV eC Es) W (h.e.bl hb) (rowsV_one eC eC_one Es) hm)
  clear h hr
  go_enter Try.func28, Try.ntmps28
  go_upto_region 1 with fail
  have hx0 : Whole ((w.alloc (.cells #[.slice A n c, .slice B m k] 25)).alloc (.cells #[.slice none 0 0, .slice none 0 0] 25)) (w.heap.size) 25 [.slice A n c, .slice B m k] := ((Whole.new_ w 25 [.slice A n c, .slice B m k]).alloc (.cells #[.slice none 0 0, .slice none 0 0] 25))
  have hx1 : Whole ((w.alloc (.cells #[.slice A n c, .slice B m k] 25)).alloc (.cells #[.slice none 0 0, .slice none 0 0] 25)) (w.heap.size + 1) 25 [.slice none 0 0, .slice none 0 0] := (Whole.new2 (w := (w.alloc (.cells #[.slice A n c, .slice B m k] 25))) (by simp))
  have hbl : Below w.heap.size w ((w.alloc (.cells #[.slice A n c, .slice B m k] 25)).alloc (.cells #[.slice none 0 0, .slice none 0 0] 25)) := (bel_al (below1 w (.cells #[.slice A n c, .slice B m k] 25)) (.cells #[.slice none 0 0, .slice none 0 0] 25))
  have hsz : w.heap.size + 1 + 1 ≤ (((w.alloc (.cells #[.slice A n c, .slice B m k] 25)).alloc (.cells #[.slice none 0 0, .slice none 0 0] 25))).heap.size := by simp
  obtain ⟨W0, gW0⟩ : ∃ z, ((w.alloc (.cells #[.slice A n c, .slice B m k] 25)).alloc (.cells #[.slice none 0 0, .slice none 0 0] 25)) = z := ⟨_, rfl⟩
  rw [gW0] at hx0 hx1 hbl hsz
  obtain ⟨b1, gb1⟩ : ∃ z, w.heap.size + 1 = z := ⟨_, rfl⟩
  rw [gb1] at hx1
  obtain ⟨b0, gb0⟩ : ∃ z, w.heap.size = z := ⟨_, rfl⟩
  rw [gb0] at hx0
  have HX0 := Lib.hid hx0
  have HX1 := Lib.hid hx1
  have HB0 := Lib.hid hbl
  have HS0 := Lib.hid hsz
  have Gb0 := Lib.hid gb0
  have Lb0 : RowKit.Hid (w.heap.size ≤ b0) := Lib.hid (by omega)
  have Gb1 := Lib.hid gb1
  have Lb1 : RowKit.Hid (w.heap.size ≤ b1) := Lib.hid (by omega)
  have N01 : RowKit.Hid (b0 ≠ b1) := Lib.hid (by omega)
  rw [gW0]
  try rw [gb1]
  try rw [gb0]
  have Gsz : RowKit.Hid (w.heap.size + 1 < W0.heap.size) := Lib.hid (by omega)
  clear gW0 hbl hsz hx0 hx1 gb0 gb1
  have HX := HX0
  have HB := HB0
  have HS := Gsz
  clear HX0 HB0 HS0 Gsz
  refine wp_region_in2 8 (From_ w.heap.size) (gam w b0 A n c Vs B m k Es) (Ext W0.drew) (by kernel_rfl) (by kernel_rfl) (by kernel_rfl) (by kernel_rfl) (by kernel_rfl) (fun i v w1 w2 h hx => gam_up i v w1 w2 h hx) (fun _ _ h k => h.trans k) (Ext.refl _) ?_ ?_
  · intro i hi9
    have hcase : i = 0 ∨ i = 1 ∨ i = 2 ∨ i = 3 ∨ i = 4 ∨ i = 5 ∨ i = 6 ∨ i = 7 := by omega
    rcases hcase with rfl | rfl | rfl | rfl | rfl | rfl | rfl | rfl
    · intro o ho x y hg hdep
      simp only [List.getElem?_toArray, List.getElem?_cons_succ, List.getElem?_cons_zero, Option.some.injEq] at ho
      subst ho
      simp only [dsts, List.map_cons, List.map_nil, putAll, Act.put, List.setIfInBounds_toArray, List.set_cons_zero, List.set_cons_succ]
      refine .inl ⟨by rfl, ?_⟩
      go_simp
      exact ⟨Ext.refl _, rfl⟩
    · intro o ho x y hg hdep
      simp only [List.getElem?_toArray, List.getElem?_cons_succ, List.getElem?_cons_zero, Option.some.injEq] at ho
      subst ho
      have d0 : x 0 = .pointer (some ⟨b0, 0, none⟩) := hdep 0 (by decide)
      have hc := (HX.out.dr.bl hg).cell (i := 0) rfl
      simp only [dsts, List.map_cons, List.map_nil, putAll, Act.put, List.setIfInBounds_toArray, List.set_cons_zero, List.set_cons_succ]
      simp only [d0]
      refine .inl ⟨by rfl, ?_⟩
      go_simp
      exact ⟨Ext.refl _, rfl⟩
    · intro o ho x y hg hdep
      simp only [List.getElem?_toArray, List.getElem?_cons_succ, List.getElem?_cons_zero, Option.some.injEq] at ho
      subst ho
      have d1 : x 1 = .slice A n c := hdep 1 (by decide)
      simp only [dsts, List.map_cons, List.map_nil, putAll, Act.put, List.setIfInBounds_toArray, List.set_cons_zero, List.set_cons_succ]
      simp only [d1]
      refine .inl ⟨by rfl, outT_call (by go_simp; first | done | exact ⟨rfl, rfl⟩ | with_reducible rfl) ?_⟩
      refine (HCv.out y (bel_bl (bel_dr HB.out) hg)).mono ?_
      rintro e w2 ⟨A', c', rfl, ho⟩
      exact ⟨_, rfl, ho.below, A', c', rfl, own_lo' ho.own (bel_bl (bel_dr HB.out) hg).size⟩
    · intro o ho x y hg hdep
      simp only [List.getElem?_toArray, List.getElem?_cons_succ, List.getElem?_cons_zero, Option.some.injEq] at ho
      subst ho
      simp only [dsts, List.map_cons, List.map_nil, putAll, Act.put, List.setIfInBounds_toArray, List.set_cons_zero, List.set_cons_succ]
      refine .inl ⟨by rfl, ?_⟩
      go_simp
      exact ⟨Ext.refl _, rfl⟩
    · intro o ho x y hg hdep
      simp only [List.getElem?_toArray, List.getElem?_cons_succ, List.getElem?_cons_zero, Option.some.injEq] at ho
      subst ho
      have d3 : x 3 = .pointer (some ⟨b0, 1, none⟩) := hdep 3 (by decide)
      have hc := (HX.out.dr.bl hg).cell (i := 1) rfl
      simp only [dsts, List.map_cons, List.map_nil, putAll, Act.put, List.setIfInBounds_toArray, List.set_cons_zero, List.set_cons_succ]
      simp only [d3]
      refine .inl ⟨by rfl, ?_⟩
      go_simp
      exact ⟨Ext.refl _, rfl⟩
    · intro o ho x y hg hdep
      simp only [List.getElem?_toArray, List.getElem?_cons_succ, List.getElem?_cons_zero, Option.some.injEq] at ho
      subst ho
      have d4 : x 4 = .slice B m k := hdep 4 (by decide)
      simp only [dsts, List.map_cons, List.map_nil, putAll, Act.put, List.setIfInBounds_toArray, List.set_cons_zero, List.set_cons_succ]
      simp only [d4]
      refine .inl ⟨by rfl, outT_call (by go_simp; first | done | exact ⟨rfl, rfl⟩ | with_reducible rfl) ?_⟩
      refine (HCe.out y (bel_bl (bel_dr HB.out) hg)).mono ?_
      rintro e w2 ⟨A', c', rfl, ho⟩
      exact ⟨_, rfl, ho.below, A', c', rfl, own_lo' ho.own (bel_bl (bel_dr HB.out) hg).size⟩
    · intro o ho x y hg hdep
      simp only [List.getElem?_toArray, List.getElem?_cons_succ, List.getElem?_cons_zero, Option.some.injEq] at ho
      subst ho
      obtain ⟨A', c', d2, ho2⟩ : gam w b0 A n c Vs B m k Es 2 (x 2) y := hdep 2 (by decide)
      obtain ⟨B', k', d5, ho5⟩ : gam w b0 A n c Vs B m k Es 5 (x 5) y := hdep 5 (by decide)
      simp only [dsts, List.map_cons, List.map_nil, putAll, Act.put, List.setIfInBounds_toArray, List.set_cons_zero, List.set_cons_succ]
      simp only [d2, d5]
      refine .inl ⟨by rfl, ?_⟩
      go_simp
      exact ⟨Ext.refl _, A', c', B', k', rfl, ho2, ho5⟩
    · intro o ho x y hg hdep
      simp only [List.getElem?_toArray, List.getElem?_cons_succ, List.getElem?_cons_zero, Option.some.injEq] at ho
      subst ho
      simp only [dsts, List.map_cons, List.map_nil, putAll, Act.put, List.setIfInBounds_toArray, List.set_cons_zero, List.set_cons_succ]
      refine .inl ⟨by rfl, outT_run (w' := y.alloc (.cells #[.slice none 0 0, .slice none 0 0] 25)) (by go_simp; first | done | exact rfl | exact ⟨rfl, rfl⟩) (below1 _ _) ?_⟩
      exact ⟨y.heap.size, rfl, Nat.lt_of_lt_of_le HS.out hg.size, Whole.new_ _ _ [_, _]⟩
  intro x y hg hall
  obtain ⟨A', c', B', k', d6, hov, hoe⟩ : gam w b0 A n c Vs B m k Es 6 (x 6) y := hall 6 (by decide)
  obtain ⟨g, d7, hgl, hgw⟩ : gam w b0 A n c Vs B m k Es 7 (x 7) y := hall 7 (by decide)
  simp only [dsts, List.map_cons, List.map_nil, putAll, Act.put, List.setIfInBounds_toArray, List.set_cons_zero, List.set_cons_succ]
  simp only [d6, d7]
  have HOv := Lib.hid hov
  have HOe := Lib.hid hoe
  have HGw := Lib.hid hgw
  have Hgl := Lib.hid hgl
  have HBy := Lib.hid (bel_bl (bel_dr HB.out) hg)
  have HX1y := Lib.hid (HX1.out.dr.bl hg)
  clear hg hall d6 d7 hov hoe hgw hgl HCv HCe HB HX HX1 HS
  apply wpR_store 8
  · simp only [List.getElem?_toArray, List.getElem?_cons_succ, List.getElem?_cons_zero]; exact rfl
  · rfl
  · kernel_rfl
  · rfl
  intro w' hw'
  refine ⟨w'.setRow g #[.slice A' n c', .slice B' m k'], store_row_run 25 (.tmp 3) (.tmp 12) rfl g rfl [.slice A' n c', .slice B' m k'] rfl 25 [.slice none 0 0, .slice none 0 0] (HGw.out.bl hw') (by kernel_rfl) rfl (by simp [Value.oneCell']), kept_row (show w.heap.size ≤ g by have := Hgl.out; omega) _, ?_⟩
  have hgne1 : some g ≠ (Value.slice A' n c').ownBlock := own_ne (own_up HOv.out hw') (HGw.out.bl hw') (by decide)
  have hgne2 : some g ≠ (Value.slice B' m k').ownBlock := own_ne (own_up HOe.out hw') (HGw.out.bl hw') (by decide)
  have hrow : ∀ (W : World) (cs : Array Value), W.setRow g cs = W.setRow g cs := fun _ _ => rfl
  have hkr : Kept (· = g) w' (w'.setRow g #[.slice A' n c', .slice B' m k']) := kept_row (S := fun x => x = g) rfl _
  have HVr : RowKit.Hid ((w'.setRow g #[.slice A' n c', .slice B' m k']).ownsRow w.heap.size 39 5 (.slice A' n c') n (rowsV vC Vs)) := Lib.hid ((own_up HOv.out hw').kept (row := some g) ⟨hkr.os, hkr.tape, hkr.output, hkr.size, fun i hi hk => hkr.block i hi (fun e => hk (by rw [e]))⟩ (by first | exact hgne1 | exact hgne1.symm | exact .inr hgne1 | exact .inr hgne1.symm))
  have HEr : RowKit.Hid ((w'.setRow g #[.slice A' n c', .slice B' m k']).ownsRow w.heap.size 43 4 (.slice B' m k') m (rowsV eC Es)) := Lib.hid ((own_up HOe.out hw').kept (row := some g) ⟨hkr.os, hkr.tape, hkr.output, hkr.size, fun i hi hk => hkr.block i hi (fun e => hk (by rw [e]))⟩ (by first | exact hgne2 | exact hgne2.symm | exact .inr hgne2 | exact .inr hgne2.symm))
  have HGr : RowKit.Hid (Whole (w'.setRow g #[.slice A' n c', .slice B' m k']) g 25 [.slice A' n c', .slice B' m k']) := Lib.hid (Whole.row (HGw.out.bl hw') [.slice A' n c', .slice B' m k'])
  have HBr : RowKit.Hid (Below w.heap.size w (w'.setRow g #[.slice A' n c', .slice B' m k'])) := Lib.hid (below_row (bel_bl HBy.out hw') (by have := Hgl.out; omega) _)
  have HX1r : RowKit.Hid (Whole (w'.setRow g #[.slice A' n c', .slice B' m k']) b1 25 [.slice none 0 0, .slice none 0 0]) := Lib.hid ((HX1y.out.bl hw').row_far (by have := Gb1.out; have := Hgl.out; omega) _)
  obtain ⟨W1, gW1⟩ : ∃ z, w'.setRow g #[.slice A' n c', .slice B' m k'] = z := ⟨_, rfl⟩
  rw [gW1] at HVr HEr HGr HBr HX1r ⊢
  clear hw' hgne1 hgne2 hrow hkr gW1 HOv HOe HGw HBy HX1y
  refine wpR_done (by kernel_rfl) ?_ _
  intro W2 hw2
  have HV2 := Lib.hid (own_up HVr.out hw2)
  have HE2 := Lib.hid (own_up HEr.out hw2)
  have HG2 := Lib.hid (HGr.out.bl hw2)
  have HB2 := Lib.hid (bel_bl HBr.out hw2)
  have HX2 := Lib.hid (HX1r.out.bl hw2)
  have Hg1 : RowKit.Hid (b1 < g) := Lib.hid (by have := Gb1.out; have := Hgl.out; omega)
  clear hw2 HVr HEr HGr HBr HX1r
  have c0 := HG2.out.cell (i := 0) rfl
  go_wp2
  clear c0
  go_loopw [16] (fun si wr => ∃ (j : Nat) (Ws : List VC), j ≤ n ∧ Ws.length = j ∧ si = .int .i64 j ∧ RowKit.Hid (Below w.heap.size w wr) ∧ RowKit.Hid (Whole wr g 25 [.slice A' n c', .slice B' m k']) ∧ RowKit.Hid (Whole wr b1 25 [.slice none 0 0, .slice none 0 0]) ∧
    RowKit.Hid (wr.ownsRow w.heap.size 39 5 (.slice A' n c') n (rowsV vC (Ws ++ Vs.drop j))) ∧ RowKit.Hid (wr.ownsRow w.heap.size 43 4 (.slice B' m k') m (rowsV eC Es)) ∧ RowKit.Hid (RgsOwn wr w.heap.size Ws) ∧ RowKit.Hid (Ws.map vS = (Vs.take j).map vS)) (fun si _ => n - (intOf si).toNat)
  case atStart => exact ⟨0, [], by omega, rfl, rfl, HB2, HG2, HX2, HV2, HE2, Lib.hid (RgsOwn.nil_ _ _), Lib.hid rfl⟩
  case round =>
    clear HB2 HG2 HX2 HV2 HE2
    obtain ⟨j, Ws, hj, hwl, rfl, HB, HG, HX, HV, HE, HR, HM⟩ := hrel
    obtain ⟨wo, gwo⟩ : ∃ z, wr = z := ⟨_, rfl⟩
    rw [gwo] at HB HG HX HV HE HR ⊢
    clear gwo
    by_cases hjn : j < n
    · obtain ⟨x, hx⟩ : ∃ x, Vs[j]? = some x := ⟨_, List.getElem?_eq_getElem (by have := Hl.out; omega)⟩
      have hxw : (Ws ++ Vs.drop j)[j]? = some x := by
        rw [List.getElem?_append_right (by omega), hwl, Nat.sub_self, List.getElem?_drop]
        simpa using hx
      have hsf := fun y => set_front Ws Vs j x y hwl hx
      have HSf := Lib.hid hsf
      have hrg := HRg.out x (List.mem_of_getElem? hx)
      have hrn := Hhr.out x (List.mem_of_getElem? hx)
      have HMx : RowKit.Hid ((Vs.take (j + 1)).map vS = (Vs.take j).map vS ++ [vS x]) := Lib.hid (by rw [List.take_add_one, hx]; simp)
      obtain ⟨gv, junk, rfl, hglo, hgw, hgl, hgc, hgm, hgx⟩ := own_place HV.out (by omega)
      have hpl := fun i v hv => (own_rds HV.out).elem vC_len hxw i v hv
      have q0 := hpl 0 _ rfl
      have q1 := hpl 1 _ rfl
      have q2 := hpl 2 _ rfl
      have q3 := hpl 3 _ rfl
      have q4 := hpl 4 _ rfl
      simp only [Addr.add_lit, Nat.add_zero, Nat.zero_add] at q0 q1 q2 q3 q4
      have HCl := Lib.hid (fun W (hb : Below w.heap.size w W) => cloneV x W (hrg.below hb) hrn)
      obtain ⟨⟨i1, i2⟩, ⟨rA, rn, rc, rL⟩, lb, at_⟩ := x
      replace HCl : RowKit.Hid (∀ W, Below w.heap.size w W → Calls Try.prog 49 #[.agg #[.int .i64 i1, .int .i64 i2, .slice rA rn rc, .string lb, .int .i64 at_]] W fun e w' => ∃ A' c', e = .returned (.agg #[.int .i64 i1, .int .i64 i2, .slice A' rn c', .string lb, .int .i64 at_]) ∧ Ow W W.heap.size 36 3 (.slice A' rn c') rn (dartsV rL) w') := HCl
      have HGw := Lib.hid hgw
      have Hgl := Lib.hid (And.intro hglo (And.intro hgl (And.intro hgc (And.intro hgm hgx))))
      clear hx hxw hsf hrg hrn hpl hgw hglo hgl hgc hgm hgx
      go_upto_region 5 with fail
      clear q0 q1 q2 q3 q4
      have HX5 := Lib.hid (Whole.new_ wo 39 [.int .i64 i1, .int .i64 i2, .slice rA rn rc, .string lb, .int .i64 at_])
      have HB1 := Lib.hid (bel_al HB.out (.cells #[.int .i64 i1, .int .i64 i2, .slice rA rn rc, .string lb, .int .i64 at_] 39))
      have HG1 := Lib.hid (HG.out.alloc (.cells #[.int .i64 i1, .int .i64 i2, .slice rA rn rc, .string lb, .int .i64 at_] 39))
      have HXo1 := Lib.hid (HX.out.alloc (.cells #[.int .i64 i1, .int .i64 i2, .slice rA rn rc, .string lb, .int .i64 at_] 39))
      have HGw1 := Lib.hid (HGw.out.alloc (.cells #[.int .i64 i1, .int .i64 i2, .slice rA rn rc, .string lb, .int .i64 at_] 39))
      have HE1 := Lib.hid (own_up HE.out (below1 wo (.cells #[.int .i64 i1, .int .i64 i2, .slice rA rn rc, .string lb, .int .i64 at_] 39)))
      have HR1 := Lib.hid (HR.out.up (below1 wo (.cells #[.int .i64 i1, .int .i64 i2, .slice rA rn rc, .string lb, .int .i64 at_] 39)))
      obtain ⟨W1, gW1⟩ : ∃ z, wo.alloc (.cells #[.int .i64 i1, .int .i64 i2, .slice rA rn rc, .string lb, .int .i64 at_] 39) = z := ⟨_, rfl⟩
      obtain ⟨g5, gg5⟩ : ∃ z, wo.heap.size = z := ⟨_, rfl⟩
      rw [gW1] at HX5 HB1 HG1 HXo1 HGw1 HE1 HR1 ⊢
      rw [gg5] at HX5 ⊢
      have Hne5 : RowKit.Hid (gv ≠ g5) := Lib.hid (by have := HGw.out.lt; omega)
      clear gW1 gg5 HB HG HX HGw HE HR HV
      have ld0 : ∀ w', Kept Nil_ W1.drew w' → w'.cell? ⟨g, 0, none⟩ = some (.slice (some ⟨gv, 0, none⟩) n c') := fun w' h => h.nil_cell (HG1.out.dr.cell (i := 0) rfl)
      refine wp_region_tail (Nil_) [6] (by kernel_rfl) ?_
      apply wpT_next 0 (some 21) (by kernel_rfl)
      · simp only [List.getElem?_toArray, List.getElem?_cons_succ, List.getElem?_cons_zero]; exact rfl
      · rfl
      · kernel_rfl
      · kernel_rfl
      · kernel_rfl
      · exact fun _ _ _ _ h => h
      apply Exists.intro
      apply And.intro
      · apply yr_run; rfl; intro w' hw'; go_simp; (try with_reducible rfl)
      simp only [Act.put, List.setIfInBounds_toArray, List.set_cons_zero, List.set_cons_succ]
      apply wpT_next 1 (some 22) (by kernel_rfl)
      · simp only [List.getElem?_toArray, List.getElem?_cons_succ, List.getElem?_cons_zero]; exact rfl
      · rfl
      · kernel_rfl
      · kernel_rfl
      · kernel_rfl
      · exact fun _ _ _ _ h => h
      apply Exists.intro
      apply And.intro
      · apply yr_run; rfl; intro w' hw'; go_simp; (try with_reducible rfl)
      simp only [Act.put, List.setIfInBounds_toArray, List.set_cons_zero, List.set_cons_succ]
      apply wpT_next 2 (some 23) (by kernel_rfl)
      · simp only [List.getElem?_toArray, List.getElem?_cons_succ, List.getElem?_cons_zero]; exact rfl
      · rfl
      · kernel_rfl
      · kernel_rfl
      · kernel_rfl
      · exact fun _ _ _ _ h => h
      apply Exists.intro
      apply And.intro
      · apply yr_run; rfl; intro w' hw'; go_simp; (try with_reducible rfl)
      simp only [Act.put, List.setIfInBounds_toArray, List.set_cons_zero, List.set_cons_succ]
      apply wpT_next 3 (some 24) (by kernel_rfl)
      · simp only [List.getElem?_toArray, List.getElem?_cons_succ, List.getElem?_cons_zero]; exact rfl
      · rfl
      · kernel_rfl
      · kernel_rfl
      · kernel_rfl
      · exact fun _ _ _ _ h => h
      apply Exists.intro
      apply And.intro
      · exact yr_load (by rfl) 39 (.tmp 5) rfl g5 rfl 39 [.int .i64 i1, .int .i64 i2, .slice rA rn rc, .string lb, .int .i64 at_] _ (fun w' h => h.whole HX5.out.dr (fun h => h)) Try.underlying39 rfl (by kernel_rfl)
      simp only [Act.put, List.setIfInBounds_toArray, List.set_cons_zero, List.set_cons_succ]
      apply wpT_call 4 (some 25)
      · simp only [List.getElem?_toArray, List.getElem?_cons_succ, List.getElem?_cons_zero]; exact rfl
      · rfl
      · kernel_rfl
      · rfl
      · intro w'; go_simp; first | done | exact ⟨rfl, rfl⟩ | with_reducible rfl
      intro w' hw'
      refine (HCl.out w' (bel_bl (bel_dr HB1.out) hw')).mono ?_
      rintro e w9 ⟨A9, c9, rfl, ho⟩
      refine ⟨_, rfl, Kept.of_below ho.below, ?_⟩
      have hlt : ∀ y ∈ Ws, ∀ a, y.2.1.1 = some a → a.block < w'.heap.size := fun y hy a ha => (own_lt ((HR1.out.up (below_drewN W1.heap.size W1 1)).up hw' |>.own y hy) ha).2
      have HRs0 : RowKit.Hid (RgsOwn w9 w.heap.size (Ws ++ [((i1, i2), (A9, rn, c9, rL), lb, at_)])) := Lib.hid ((((HR1.out.up (below_drewN W1.heap.size W1 1)).up hw').up ho.below).snoc (x := ((i1, i2), (A9, rn, c9, rL), lb, at_)) ho.own (bel_bl (bel_dr HB1.out) hw').size hlt)
      have HX59 := Lib.hid ((HX5.out.dr.bl hw').bl ho.below)
      have HB9 := Lib.hid (bel_bl (bel_bl (bel_dr HB1.out) hw') ho.below)
      have HG9 := Lib.hid ((HG1.out.dr.bl hw').bl ho.below)
      have HXo9 := Lib.hid ((HXo1.out.dr.bl hw').bl ho.below)
      have HGw9 := Lib.hid ((HGw1.out.dr.bl hw').bl ho.below)
      have HE9 := Lib.hid (own_up (own_up (own_up HE1.out (below_drewN W1.heap.size W1 1)) hw') ho.below)
      obtain ⟨V9, gV9⟩ : ∃ z, w9 = z := ⟨_, rfl⟩
      rw [gV9] at HRs0 HX59 HB9 HG9 HXo9 HGw9 HE9 ⊢
      clear hw' ho hlt gV9 ld0 HB1 HG1 HXo1 HGw1 HE1 HR1 HX5
      simp only [Act.put, List.setIfInBounds_toArray, List.set_cons_zero, List.set_cons_succ]
      apply wpT_next 5 (some 26) (by kernel_rfl)
      · simp only [List.getElem?_toArray, List.getElem?_cons_succ, List.getElem?_cons_zero]; exact rfl
      · rfl
      · kernel_rfl
      · kernel_rfl
      · kernel_rfl
      · exact fun _ _ _ _ h => h
      apply Exists.intro
      apply And.intro
      · apply yr_run; rfl; intro w' hw'; go_simp; (try with_reducible rfl)
      simp only [Act.put, List.setIfInBounds_toArray, List.set_cons_zero, List.set_cons_succ]
      apply wpT_last 6
      · simp only [List.getElem?_toArray, List.getElem?_cons_succ, List.getElem?_cons_zero]; exact rfl
      · rfl
      · kernel_rfl
      · rfl
      · decide
      intro w' hw'
      have hgw := HGw9.out.bl hw'
      have hlen := rowsV_length vC vC_len (Ws ++ Vs.drop j)
      have hll : (Ws ++ Vs.drop j).length = n := by
        have h1 := Hgl.out.2.2.2.2
        rw [hlen] at h1
        omega
      have hjl : j * 5 + 5 ≤ (rowsV vC (Ws ++ Vs.drop j) ++ junk).length := by
        rw [List.length_append, hlen, hll]
        omega
      refine ⟨w'.setCells gv (j * 5) [.int .i64 i1, .int .i64 i2, .slice A9 rn c9, .string lb, .int .i64 at_], store_mid_run 39 (.tmp 26) (.tmp 25) rfl gv (j * 5) (by first | rfl | (go_simp; done) | (simp [Act.eval]; done)) [.int .i64 i1, .int .i64 i2, .slice A9 rn c9, .string lb, .int .i64 at_] rfl (hgw.there_ (j * 5) 5 hjl) (by kernel_rfl) (by simp [Value.oneCell']), ?_⟩
      have hput := hgw.cells_ (vC ((i1, i2), (A9, rn, c9, rL), lb, at_)) (j * 5) w' _ hjl
      rw [rowsV_put vC_len _ junk j _ (by omega), HSf.out] at hput
      have hgne : ∀ {T : TypeId} {A2 : Option Addr} {n2 c2 k2 : Nat} {xs : List Value}, w'.ownsRow w.heap.size T k2 (.slice A2 n2 c2) n2 xs → 39 ≠ T → some gv ≠ (Value.slice A2 n2 c2).ownBlock := fun h hT => own_ne h hgw hT
      have hsl : (rowsV vC ((Ws ++ [((i1, i2), (A9, rn, c9, rL), lb, at_)]) ++ Vs.drop (j + 1))).length = n * 5 := by
        rw [← HSf.out, rowsV_length vC vC_len, List.length_set, hll]
      have HVs : RowKit.Hid ((w'.setCells gv (j * 5) (vC ((i1, i2), (A9, rn, c9, rL), lb, at_))).ownsRow w.heap.size 39 5 (.slice (some ⟨gv, 0, none⟩) n c') n (rowsV vC ((Ws ++ [((i1, i2), (A9, rn, c9, rL), lb, at_)]) ++ Vs.drop (j + 1)))) := Lib.hid (own_mk hput Hgl.out.1 (by
        have h1 := Hgl.out.2.1
        rw [List.length_append] at h1 ⊢
        rw [hsl, ← h1, hlen, hll]) Hgl.out.2.2.1 Hgl.out.2.2.2.1 hsl)
      have HEs : RowKit.Hid ((w'.setCells gv (j * 5) (vC ((i1, i2), (A9, rn, c9, rL), lb, at_))).ownsRow w.heap.size 43 4 (.slice B' m k') m (rowsV eC Es)) := Lib.hid (own_cells_far (own_up HE9.out hw') (hgne (own_up HE9.out hw') (by decide)) _ _)
      have HRs : RowKit.Hid (RgsOwn (w'.setCells gv (j * 5) (vC ((i1, i2), (A9, rn, c9, rL), lb, at_))) w.heap.size (Ws ++ [((i1, i2), (A9, rn, c9, rL), lb, at_)])) := Lib.hid ((HRs0.out.up hw').cells hgw (by decide) _ _)
      have HBs : RowKit.Hid (Below w.heap.size w (w'.setCells gv (j * 5) (vC ((i1, i2), (A9, rn, c9, rL), lb, at_)))) := Lib.hid (below_setCells (bel_bl HB9.out hw') Hgl.out.1 _ _)
      have HGs : RowKit.Hid (Whole (w'.setCells gv (j * 5) (vC ((i1, i2), (A9, rn, c9, rL), lb, at_))) g 25 [.slice (some ⟨gv, 0, none⟩) n c', .slice B' m k']) := Lib.hid ((HG9.out.bl hw').cells_far ((HG9.out.bl hw').ne_ hgw (by decide)) _ _)
      have HXs : RowKit.Hid (Whole (w'.setCells gv (j * 5) (vC ((i1, i2), (A9, rn, c9, rL), lb, at_))) b1 25 [.slice none 0 0, .slice none 0 0]) := Lib.hid ((HXo9.out.bl hw').cells_far ((HXo9.out.bl hw').ne_ hgw (by decide)) _ _)
      obtain ⟨W7, gW7⟩ : ∃ z, w'.setCells gv (j * 5) (vC ((i1, i2), (A9, rn, c9, rL), lb, at_)) = z := ⟨_, rfl⟩
      rw [gW7] at HVs HEs HRs HBs HGs HXs
      rw [show w'.setCells gv (j * 5) [.int .i64 i1, .int .i64 i2, .slice A9 rn c9, .string lb, .int .i64 at_] = W7 from gW7]
      clear hw' hgw hlen hll hjl hput hgne hsl gW7 HB9 HG9 HXo9 HGw9 HE9 HX59 HRs0
      try simp only [Act.put, List.setIfInBounds_toArray, List.set_cons_zero, List.set_cons_succ]
      refine wpT_done (by kernel_rfl) ?_ _
      intro W8 hw8
      have HB8 := Lib.hid (bel_bl HBs.out hw8)
      have HG8 := Lib.hid (HGs.out.bl hw8)
      have HXo8 := Lib.hid (HXs.out.bl hw8)
      have HV8 := Lib.hid (own_up HVs.out hw8)
      have HE8 := Lib.hid (own_up HEs.out hw8)
      have HR8 := Lib.hid (HRs.out.up hw8)
      clear hw8 HBs HGs HXs HVs HEs HRs
      go_wp2
      go_roundw
      case rel => exact ⟨j + 1, Ws ++ [((i1, i2), (A9, rn, c9, rL), lb, at_)], by omega, by simp [hwl], by go_num, HB8, HG8, HXo8, HV8, HE8, HR8, Lib.hid (by rw [HMx.out, List.map_append, HM.out]; rfl)⟩
      case measure => simp [intOf]; omega
    · obtain rfl : n = j := by omega
      have hfin : rowsV vC (Ws ++ Vs.drop n) = rowsV vC Ws := by rw [List.drop_eq_nil_of_le (by have := Hl.out; omega), List.append_nil]
      have hv := HV.out
      rw [hfin] at hv
      have hm := HM.out
      rw [List.take_of_length_le (by have := Hl.out; omega)] at hm
      have hne1 : some b1 ≠ (Value.slice A' n c').ownBlock := own_ne hv HX.out (by decide)
      have hne2 : some b1 ≠ (Value.slice B' m k').ownBlock := own_ne HE.out HX.out (by decide)
      have HF : RowKit.Hid (Cl ((wo.setCell ⟨b1, 0, none⟩ (.slice A' n c')).setCell ⟨b1, 1, none⟩ (.slice B' m k')) w.heap.size A' n c' Ws B' m k' Es) := Lib.hid
        ⟨own_cell_far (own_cell_far hv hne1 _) hne1 _, own_cell_far (own_cell_far HE.out hne2 _) hne2 _, (HR.out.cells HX.out (by decide) 0 [.slice A' n c']).cells (HX.out.set_ 0 (.slice A' n c')) (by decide) 1 [.slice B' m k']⟩
      have HY := Lib.hid ((HX.out.set_ 0 (.slice A' n c')).set_ 1 (.slice B' m k'))
      have HBf := Lib.hid ((HB.out.setCell (p := ⟨b1, 0, none⟩) Lb1.out (.slice A' n c')).setCell (p := ⟨b1, 1, none⟩) Lb1.out (.slice B' m k'))
      have Hm := Lib.hid hm
      have c0 := HG.out.cell (i := 0) rfl
      have c1 := HG.out.cell (i := 1) rfl
      have f0 := HX.out.free 0
      have f1 := HX.out.free 1
      have k0 := HX.out.cell (i := 0) rfl
      have k1 := HX.out.cell (i := 1) rfl
      clear hv hm hne1 hne2 hfin HV HE HR HX HB
      go_wp2
      exact ret_whole rfl b1 rfl HY.out Try.underlying25 rfl (by kernel_rfl) rfl ⟨A', c', B', k', Ws, rfl, HF.out, Hm.out, HBf.out⟩
end Go.Proofs.Ytdhglhcpgmfpoaa
