/- face.round; the iterator that it hands back. -/
import Derived.RangeFuncNested
import Derived.RangeFuncBound
import Derived.RangeFuncCalls
import Derived.RangeFuncLeaves
import Derived.Shelf.Abstract
import Derived.Shelf.RegionOpen
import Derived.WalkKit
import Derived.OwnWalkIn
import Derived.TacticsInMore
import Derived.LoopNIn
import Derived.LoopIn
import Derived.Test.YtpindjknngcccaaRfs
import Derived.Test.YtpindjknngcccaaFc1
import Derived.Test.YtpindjknngcccaaAtr
namespace Go.Proofs.Ytpindjknngcccaa
open Go.RowKit
set_option linter.unusedSimpArgs false
set_option linter.unusedVariables false


attribute [local go_sem] Oper.semAt_some

/-- Darts that are keys, of a side. -/
def wfS (d : D) : Prop := wfD d ∧ 0 ≤ d.2.2 ∧ d.2.2 ≤ 1
abbrev D2 := { d : D // wfS d }
def othD (d : D) : D := (d.1, d.2.1, 1 - d.2.2)
/-- Round a face, from y on, k darts at most. -/
def trG (g : D → Option D) (x : D) : Nat → D → List D
  | 0, _ => []
  | k + 1, y => y :: (match g (othD y) with | none => [] | some z => if z = x then [] else trG g x k z)
def faceL (g : D → Option D) (N : Nat) (x : D) : List D := if (g x).isSome then trG g x N x else []
theorem wfS.oth {d : D} (h : wfS d) : wfS (othD d) := by
  obtain ⟨⟨h1, h2, h3⟩, h4, h5⟩ := h
  refine ⟨⟨h1, h2, ?_⟩, by show 0 ≤ 1 - d.2.2; omega, by show 1 - d.2.2 ≤ 1; omega⟩
  show (Lit.int .i64 (1 - d.2.2)).wf = true
  have e0 : (1 : Int) - d.2.2 = 0 ∨ (1 : Int) - d.2.2 = 1 := by omega
  rcases e0 with e0 | e0 <;> rw [e0] <;> decide
theorem opV_some {g : D → Option D} {x z : D} (h : g x = some z) : opV g x = some (dV z) := by unfold opV; rw [h]; rfl
theorem opV_none {g : D → Option D} {x : D} (h : g x = none) : opV g x = none := by unfold opV; rw [h]; rfl
theorem zero_dartV (w : World) : (zeroValue 39).run Try.prog w = .ok (dV (0, 0, 0)) w := by
  obtain ⟨i, hi, hz⟩ : ∃ i, Try.prog.info? 39 = some i ∧ i.zero = some (dV (0, 0, 0)) := by
    have h : (Try.prog.info? 39).map (·.zero) = some (some (dV (0, 0, 0))) := by kernel_rfl
    cases h2 : Try.prog.info? 39 with
    | none => rw [h2] at h; cases h
    | some i => rw [h2] at h; exact ⟨i, rfl, by simpa using h⟩
  simp [zeroValue, typeInfo, hi, hz]
theorem gb_bel {w w' : World} (B : Nat) (h : Below w.heap.size w w') : w.grownBy w' (some B) := ⟨h.os, h.tape, h.output, h.size, fun k hk _ => h.block k hk⟩
theorem AbI.bel {B : Nat} {J : World → Prop} (h : AbI B J) {w w' : World} (hj : J w) (hb : Below w.heap.size w w') : J w' := h w w' hj (gb_bel B hb)
theorem AbI.row {B : Nat} {J : World → Prop} (h : AbI B J) {w : World} (hj : J w) (cs : Array Value) : J (w.setRow B cs) :=
  h w _ hj (by have hk := kept_row (S := fun i => i = B) (w := w) rfl cs; exact ⟨hk.os, hk.tape, hk.output, hk.size, fun k h1 h2 => hk.block k h1 (fun e => h2 (by rw [e]))⟩)
theorem KpS.whole {K : Nat → Prop} {W W' : World} (h : KpS K W W') {g : Nat} {t : TypeId} {cs : List Value} (hw : Whole W g t cs) (hk : K g) : Whole W' g t cs :=
  hw.at_ (h.same g hw.lt hk)
theorem KpS.mapD {K : Nat → Prop} {W W' : World} (h : KpS K W W') {b n : Nat} {f : D → Option Value} {S : List D} (hw : MapD W b n f S) (hk : K b) : MapD W' b n f S :=
  hw.at_ (h.same b hw.lt hk)
set_option maxRecDepth 100000 in
set_option maxHeartbeats 4000000 in
theorem round_any (b : Nat) (x1 x2 x3 : Int) (w : World) : Calls Try.prog 66 #[.map (some b), .agg #[.int .i64 x1, .int .i64 x2, .int .i64 x3]] w fun e w' => e = .returned (.func (.func 83) #[] #[.pointer (some ⟨w.heap.size + 1, 0, none⟩), .pointer (some ⟨w.heap.size, 0, none⟩)]) ∧ w' = (w.alloc (.cells #[.map (some b)] 84)).alloc (.cells #[.int .i64 x1, .int .i64 x2, .int .i64 x3] 39) := by
  go_enter Try.func66, Try.ntmps66
  go_wp2
  go_ret
  exact ⟨rfl, rfl⟩
set_option maxRecDepth 100000 in
set_option maxHeartbeats 4000000 in
theorem otherF_any (x : D) (h : wfS x) (w : World) : Calls Try.prog 84 #[dV x] w fun e w' => e = .returned (dV (othD x)) ∧ Below w.heap.size w w' := by
  obtain ⟨s, n, c⟩ := x
  have h1 : 0 ≤ c := h.2.1
  have h2 : c ≤ 1 := h.2.2
  show Calls Try.prog 84 #[.agg #[.int .i64 s, .int .i64 n, .int .i64 c]] w _
  go_enter Try.func84, Try.ntmps84
  go_wp2
  exact bodyPost_ret (v := .agg #[.int .i64 s, .int .i64 n, .int .i64 (1 - c)]) (by simp [results, Try.results84, go_sem]) rfl ⟨rfl, below2 _ _ _⟩
set_option maxRecDepth 100000 in
set_option maxHeartbeats 4000000 in
theorem round_its (bx bn bm q : Nat) (g : D → Option D) (Sk : List D) (x : D) (hx : wfD x) (hxs : (g x).isSome = true → wfS x) (hg : ∀ d e, g d = some e → wfS e) (K : Nat → Prop) (W : World) (hK : K bx ∧ K bn ∧ K bm ∧ K W.heap.size)
    (h1 : Whole W bx 39 [.int .i64 x.1, .int .i64 x.2.1, .int .i64 x.2.2]) (h2 : Whole W bn 84 [.map (some bm)]) (h3 : MapD W bm q (opV g) Sk) (hN : Sk.length ≤ 1000000000000) :
    ItS Try.prog 83 #[.pointer (some ⟨bx, 0, none⟩), .pointer (some ⟨bn, 0, none⟩)] (fun y : D2 => #[dV y.1]) K (fun ys => ys.map (·.1) = faceL g Sk.length x) (fun ys => ys.map (·.1) <+: faceL g Sk.length x) Sk.length W := by
  intro l J Jx hJ hJx hY h0
  refine callsIn_wide.2 ?_
  show Calls Try.prog 83 #[.func (.yield l) #[] #[], .pointer (some ⟨bx, 0, none⟩), .pointer (some ⟨bn, 0, none⟩)] W _
  obtain ⟨x1, x2, x3⟩ := x
  replace h1 : Whole W bx 39 [.int .i64 x1, .int .i64 x2, .int .i64 x3] := h1
  have hxs' := hxs
  obtain ⟨N, gN⟩ : ∃ z, Sk.length = z := ⟨_, rfl⟩
  have HSk := Lib.hid gN
  rw [gN] at hN hY ⊢
  clear gN
  have HX := Lib.hid h1
  have HN := Lib.hid h2
  have HM := Lib.hid h3
  have HJ := Lib.hid h0
  have HK := Lib.hid hK
  have HY := Lib.hid hY
  have Hg := Lib.hid hg
  have Hxs := Lib.hid hxs
  have HJc := Lib.hid hJ
  have HJxc := Lib.hid hJx
  have Hx := Lib.hid hx
  have c0 := h1.cell (i := 0) rfl
  have c1 := h1.cell (i := 1) rfl
  have c2 := h1.cell (i := 2) rfl
  clear h1 h2 h3 h0 hK hY hg hxs hJ hJx hx hxs'
  go_enter Try.func83, Try.ntmps83
  go_upto_region 1 with fail
  have HX0 := Lib.hid (HX.out.al (.cells #[.int .i64 x1, .int .i64 x2, .int .i64 x3] 39))
  have HN0 := Lib.hid (HN.out.al (.cells #[.int .i64 x1, .int .i64 x2, .int .i64 x3] 39))
  have HM0 := Lib.hid (HM.out.al (.cells #[.int .i64 x1, .int .i64 x2, .int .i64 x3] 39))
  have HJ0 := Lib.hid ((HJc.out []).bel HJ.out (below1 W (.cells #[.int .i64 x1, .int .i64 x2, .int .i64 x3] 39)))
  have HY0 := Lib.hid (Whole.new_ W 39 [.int .i64 x1, .int .i64 x2, .int .i64 x3])
  have hlx := HX.out.lt
  have hln := HN.out.lt
  have hlm := HM.out.lt
  obtain ⟨b, gb⟩ : ∃ z, W.heap.size = z := ⟨_, rfl⟩
  obtain ⟨W0, gW0⟩ : ∃ z, W.alloc (.cells #[.int .i64 x1, .int .i64 x2, .int .i64 x3] 39) = z := ⟨_, rfl⟩
  rw [gb] at HJc HJxc HK HY HY0 hlx hln hlm
  rw [gW0] at HX0 HN0 HM0 HJ0 HY0
  rw [gW0, gb]
  clear c0 c1 c2 gW0 gb HX HN HM HJ
  have c0 := HX0.out.cell (i := 0) rfl
  have c1 := HX0.out.cell (i := 1) rfl
  have c2 := HX0.out.cell (i := 2) rfl
  have c3 := HN0.out.cell (i := 0) rfl
  by_cases hgx : (g (x1, x2, x3)).isSome = true
  · obtain ⟨z, hz⟩ := Option.isSome_iff_exists.1 hgx
    have Hz := Lib.hid (opV_some hz)
    have Hfl : RowKit.Hid (faceL g N (x1, x2, x3) = trG g (x1, x2, x3) N (x1, x2, x3)) := Lib.hid (by unfold faceL; rw [if_pos hgx])
    have Hs := Lib.hid (Hxs.out hgx)
    clear hgx hz
    obtain ⟨z1, z2, z3⟩ := z
    go_upto_region 2 with (at_lookup; refine wl_mapLook rfl _ _ rfl rfl HM0.out.mapF Try.underlying84 (zero_dartV _) (x := (x1, x2, x3)) Hx.out rfl ?_; rw [Hz.out]; simp only [Option.getD_some, Option.getD_none, Option.isSome_some, Option.isSome_none, dV])
    have HX1 := Lib.hid (HX0.out.al (.cells #[.int .i64 z1, .int .i64 z2, .int .i64 z3] 39))
    have HN1 := Lib.hid (HN0.out.al (.cells #[.int .i64 z1, .int .i64 z2, .int .i64 z3] 39))
    have HM1 := Lib.hid (HM0.out.al (.cells #[.int .i64 z1, .int .i64 z2, .int .i64 z3] 39))
    have HY1 := Lib.hid (HY0.out.al (.cells #[.int .i64 z1, .int .i64 z2, .int .i64 z3] 39))
    have HJ1 := Lib.hid ((HJc.out []).bel HJ0.out (below1 W0 (.cells #[.int .i64 z1, .int .i64 z2, .int .i64 z3] 39)))
    clear Hz HX0 HN0 HM0 HJ0 HY0 c0 c1 c2 c3
    obtain ⟨W1, gW1⟩ : ∃ z, W0.alloc (.cells #[.int .i64 z1, .int .i64 z2, .int .i64 z3] 39) = z := ⟨_, rfl⟩
    rw [gW1] at HX1 HN1 HM1 HJ1 HY1 ⊢
    clear gW1
    have c3 := HN1.out.cell (i := 0) rfl
    go_upto_region 3 with fail
    refine wp_region_lit ?_
    refine wl_read (v := ?_) (some 17) rfl (by rfl) ?_ ?_
    rotate_left
    · go_simp; (try with_reducible rfl)
    simp only [Act.put, List.setIfInBounds_toArray, List.set_cons_zero, List.set_cons_succ]
    refine wl_dLen rfl _ rfl Try.underlying84 rfl HM1.out ?_
    rw [HSk.out]
    simp only [Act.put, List.setIfInBounds_toArray, List.set_cons_zero, List.set_cons_succ]
    go_wp2
    clear c3
    go_loopw [5, 19] (fun so si wr => ∃ (j : Nat) (pre : List D2) (y : D), j ≤ N ∧ si = .int .i64 j ∧ so = .bool true ∧ RowKit.Hid (pre.length = j ∧ wfS y ∧ faceL g N (x1, x2, x3) = pre.map (·.1) ++ trG g (x1, x2, x3) (N - j) y) ∧ RowKit.Hid (J pre wr) ∧ RowKit.Hid (Whole wr bx 39 [.int .i64 x1, .int .i64 x2, .int .i64 x3]) ∧ RowKit.Hid (Whole wr bn 84 [.map (some bm)]) ∧ RowKit.Hid (MapD wr bm q (opV g) Sk) ∧ RowKit.Hid (Whole wr b 39 [.int .i64 y.1, .int .i64 y.2.1, .int .i64 y.2.2])) (fun _ si _ => N - (intOf si).toNat)
    case atStart => exact ⟨0, [], (x1, x2, x3), by omega, rfl, rfl, Lib.hid ⟨rfl, Hs.out, Hfl.out⟩, HJ1, HX1, HN1, HM1, HY1⟩
    case round =>
      clear HJ1 HX1 HN1 HM1 HY1 Hfl
      obtain ⟨j, pre, y, hj, rfl, rfl, HF, HJ, HX, HN, HM, HYb⟩ := hrel
      by_cases hjn : j < N
      · obtain ⟨wo, gwo⟩ : ∃ z, wr = z := ⟨_, rfl⟩
        rw [gwo] at HJ HX HN HM HYb ⊢
        clear gwo
        obtain ⟨y1, y2, y3⟩ := y
        have Hys : RowKit.Hid (wfS (y1, y2, y3)) := Lib.hid HF.out.2.1
        have c0 := HYb.out.cell (i := 0) rfl
        have c1 := HYb.out.cell (i := 1) rfl
        have c2 := HYb.out.cell (i := 2) rfl
        have HFt : RowKit.Hid (faceL g N (x1, x2, x3) = pre.map (·.1) ++ trG g (x1, x2, x3) (N - (j + 1) + 1) (y1, y2, y3)) := Lib.hid (by rw [HF.out.2.2]; congr 2; omega)
        have Hpl : RowKit.Hid (pre.length = j) := Lib.hid HF.out.1
        clear HF
        go_upto_region 5 with fail
        obtain ⟨fn, tmps, assign, body, hy, hR⟩ := HY.out pre ⟨(y1, y2, y3), Hys.out⟩ wo HJ.out (by have := Hpl.out; omega) HYb.out.lt
        have HR := Lib.hid hR
        clear hR
        simp only [dV] at hy
        refine (wpIn_wide (n := 0)).1 ?_
        gi_wp2
        refine ⟨rfl, HR.out.mono ?_⟩
        clear c0 c1 c2 hy HR HJ
        rintro e W3 (⟨rfl, hJ3, hk3⟩ | ⟨rfl, hJx3⟩)
        · have HJ3 := Lib.hid hJ3
          have Hk3 := Lib.hid hk3
          clear hJ3 hk3
          gi_wp2
          have HX3 := Lib.hid (Hk3.out.whole HX.out HK.out.1)
          have HN3 := Lib.hid (Hk3.out.whole HN.out HK.out.2.1)
          have HM3 := Lib.hid (Hk3.out.mapD HM.out HK.out.2.2.1)
          have HY3 := Lib.hid (Hk3.out.whole HYb.out HK.out.2.2.2)
          clear HX HN HM HYb Hk3
          by_cases ho : (g (othD (y1, y2, y3))).isSome = true
          · obtain ⟨u, hu⟩ := Option.isSome_iff_exists.1 ho
            have Hus := Lib.hid (Hg.out _ _ hu)
            have Hto : RowKit.Hid (trG g (x1, x2, x3) (N - (j + 1) + 1) (y1, y2, y3) = (y1, y2, y3) :: (if u = (x1, x2, x3) then [] else trG g (x1, x2, x3) (N - (j + 1)) u)) := Lib.hid (by rw [trG, hu])
            have hLK : ∀ w', MapD w' bm q (opV g) Sk → (Instr.lookup 84 (.map (some bm)) (.agg #[.int .i64 y1, .int .i64 y2, .int .i64 (1 - y3)]) true).run Try.prog w' = .ok (.tuple #[dV u, .bool true]) w' := fun w' h => by
              have e := h.mapF.look (x := othD (y1, y2, y3)) Try.underlying84 (zero_dartV w') Hys.out.oth.1
              rw [opV_some hu] at e
              exact e
            clear ho hu
            obtain ⟨u1, u2, u3⟩ := u
            simp only [dV] at hLK
            have HLK := Lib.hid hLK
            clear hLK
            go_upto_region 6 with fail
            have HLd : RowKit.Hid (∀ W', Ext W3.drew W' → W'.cell? ⟨b, 0, none⟩ = some (.int .i64 y1) ∧ W'.cell? ⟨b, 1, none⟩ = some (.int .i64 y2) ∧ W'.cell? ⟨b, 2, none⟩ = some (.int .i64 y3) ∧ W'.cell? ⟨bn, 0, none⟩ = some (.map (some bm))) :=
              Lib.hid (fun W' h => ⟨(HY3.out.dr.bl h).cell (i := 0) rfl, (HY3.out.dr.bl h).cell (i := 1) rfl, (HY3.out.dr.bl h).cell (i := 2) rfl, (HN3.out.dr.bl h).cell (i := 0) rfl⟩)
            refine wp_region_in3 7 6 (fun i => i = b) (gamL [some (.map (some bm)), some (.agg #[.int .i64 y1, .int .i64 y2, .int .i64 y3]), some (.agg #[.int .i64 y1, .int .i64 y2, .int .i64 (1 - y3)]), some (.tuple #[.agg #[.int .i64 u1, .int .i64 u2, .int .i64 u3], .bool true]), some (.tuple #[.agg #[.int .i64 u1, .int .i64 u2, .int .i64 u3], .bool true]), some (.agg #[.int .i64 u1, .int .i64 u2, .int .i64 u3]), some (.bool true)] 99 0 0 []) (Ext W3.drew) (by kernel_rfl) (by kernel_rfl) (by kernel_rfl) (by kernel_rfl) (by kernel_rfl) (by kernel_rfl) (by simp only [List.getElem?_toArray, List.getElem?_cons_succ, List.getElem?_cons_zero]; exact rfl) (by kernel_rfl) (by kernel_rfl) (by kernel_rfl) ?_ (fun i v w1 w2 h hx => gamL_up i v w1 w2 h hx) (fun _ _ h k => h.trans k) (Ext.refl _) ?_ ?_ ?_
            · exact fun _ _ _ _ h => h
            · intro i hi9
              have hcase : i = 0 ∨ i = 1 ∨ i = 2 ∨ i = 3 ∨ i = 4 ∨ i = 5 ∨ i = 6 := by omega
              rcases hcase with rfl | rfl | rfl | rfl | rfl | rfl | rfl
              · intro o ho x y hg hdep
                simp only [List.getElem?_toArray, List.getElem?_cons_succ, List.getElem?_cons_zero, Option.some.injEq] at ho
                subst ho
                obtain ⟨hl0, hl1, hl2, hl3⟩ := HLd.out _ hg
                simp only [dsts, List.map_cons, List.map_nil, putAll, Act.put, List.setIfInBounds_toArray, List.set_cons_zero, List.set_cons_succ]
                refine .inl ⟨by rfl, ?_⟩
                go_simp
                exact ⟨Ext.refl _, rfl⟩
              · intro o ho x y hg hdep
                simp only [List.getElem?_toArray, List.getElem?_cons_succ, List.getElem?_cons_zero, Option.some.injEq] at ho
                subst ho
                obtain ⟨hl0, hl1, hl2, hl3⟩ := HLd.out _ hg
                simp only [dsts, List.map_cons, List.map_nil, putAll, Act.put, List.setIfInBounds_toArray, List.set_cons_zero, List.set_cons_succ]
                refine .inl ⟨by rfl, ?_⟩
                go_simp
                exact ⟨Ext.refl _, rfl⟩
              · intro o ho x y hg hdep
                simp only [List.getElem?_toArray, List.getElem?_cons_succ, List.getElem?_cons_zero, Option.some.injEq] at ho
                subst ho
                have d1 : x 1 = .agg #[.int .i64 y1, .int .i64 y2, .int .i64 y3] := hdep 1 (by decide)
                simp only [dsts, List.map_cons, List.map_nil, putAll, Act.put, List.setIfInBounds_toArray, List.set_cons_zero, List.set_cons_succ]
                simp only [d1]
                refine .inl ⟨by rfl, outT_call (by go_simp; first | done | exact ⟨rfl, rfl⟩ | with_reducible rfl) ?_⟩
                refine (show Calls Try.prog 84 #[.agg #[.int .i64 y1, .int .i64 y2, .int .i64 y3]] y (fun e w'' => e = .returned (.agg #[.int .i64 y1, .int .i64 y2, .int .i64 (1 - y3)]) ∧ Below y.heap.size y w'') from otherF_any (y1, y2, y3) Hys.out y).mono ?_
                rintro e w2 ⟨rfl, hb⟩
                exact ⟨_, rfl, hb, rfl⟩
              · intro o ho x y hg hdep
                simp only [List.getElem?_toArray, List.getElem?_cons_succ, List.getElem?_cons_zero, Option.some.injEq] at ho
                subst ho
                have d0 : x 0 = .map (some bm) := hdep 0 (by decide)
                have d2 : x 2 = .agg #[.int .i64 y1, .int .i64 y2, .int .i64 (1 - y3)] := hdep 2 (by decide)
                simp only [dsts, List.map_cons, List.map_nil, putAll, Act.put, List.setIfInBounds_toArray, List.set_cons_zero, List.set_cons_succ]
                simp only [d0, d2]
                refine .inl ⟨by rfl, outT_run (w' := y) (exec_mapLook (b := some bm) (by rfl) (by rfl) (by rfl) (HLK.out y (HM3.out.dr.bl hg))) (Ext.refl _) ?_⟩
                exact rfl
              · intro o ho x y hg hdep
                simp only [List.getElem?_toArray, List.getElem?_cons_succ, List.getElem?_cons_zero, Option.some.injEq] at ho
                subst ho
                have d3 : x 3 = .tuple #[.agg #[.int .i64 u1, .int .i64 u2, .int .i64 u3], .bool true] := hdep 3 (by decide)
                simp only [dsts, List.map_cons, List.map_nil, putAll, Act.put, List.setIfInBounds_toArray, List.set_cons_zero, List.set_cons_succ]
                simp only [d3]
                refine .inl ⟨by rfl, ?_⟩
                go_simp
                exact ⟨Ext.refl _, rfl⟩
              · intro o ho x y hg hdep
                simp only [List.getElem?_toArray, List.getElem?_cons_succ, List.getElem?_cons_zero, Option.some.injEq] at ho
                subst ho
                have d4 : x 4 = .tuple #[.agg #[.int .i64 u1, .int .i64 u2, .int .i64 u3], .bool true] := hdep 4 (by decide)
                simp only [dsts, List.map_cons, List.map_nil, putAll, Act.put, List.setIfInBounds_toArray, List.set_cons_zero, List.set_cons_succ]
                simp only [d4]
                refine .inl ⟨by rfl, ?_⟩
                go_simp
                exact ⟨Ext.refl _, rfl⟩
              · intro o ho x y hg hdep
                simp only [List.getElem?_toArray, List.getElem?_cons_succ, List.getElem?_cons_zero, Option.some.injEq] at ho
                subst ho
                have d4 : x 4 = .tuple #[.agg #[.int .i64 u1, .int .i64 u2, .int .i64 u3], .bool true] := hdep 4 (by decide)
                simp only [dsts, List.map_cons, List.map_nil, putAll, Act.put, List.setIfInBounds_toArray, List.set_cons_zero, List.set_cons_succ]
                simp only [d4]
                refine .inl ⟨by rfl, ?_⟩
                go_simp
                exact ⟨Ext.refl _, rfl⟩
            · intro x y hg hall
              have d4 : x 4 = .tuple #[.agg #[.int .i64 u1, .int .i64 u2, .int .i64 u3], .bool true] := hall 4 (by decide) (by decide)
              simp only [dsts, List.map_cons, List.map_nil, putAll, Act.put, List.setIfInBounds_toArray, List.set_cons_zero, List.set_cons_succ]
              simp only [d4]
              refine ⟨.bool true, ?_, rfl⟩
              apply yr_run; rfl; intro w' hw'; go_simp; (try with_reducible rfl)
            intro x y hg hall
            have d0 : x 0 = .map (some bm) := hall 0 (by decide)
            have d1 : x 1 = .agg #[.int .i64 y1, .int .i64 y2, .int .i64 y3] := hall 1 (by decide)
            have d2 : x 2 = .agg #[.int .i64 y1, .int .i64 y2, .int .i64 (1 - y3)] := hall 2 (by decide)
            have d3 : x 3 = .tuple #[.agg #[.int .i64 u1, .int .i64 u2, .int .i64 u3], .bool true] := hall 3 (by decide)
            have d4 : x 4 = .tuple #[.agg #[.int .i64 u1, .int .i64 u2, .int .i64 u3], .bool true] := hall 4 (by decide)
            have d5 : x 5 = .agg #[.int .i64 u1, .int .i64 u2, .int .i64 u3] := hall 5 (by decide)
            have d6 : x 6 = .bool true := hall 6 (by decide)
            simp only [dsts, List.map_cons, List.map_nil, putAll, Act.put, List.setIfInBounds_toArray, List.set_cons_zero, List.set_cons_succ]
            simp only [d0, d1, d2, d3, d4, d5, d6]
            clear hall d0 d1 d2 d3 d4 d5 d6
            apply wpR_store 7
            · simp only [List.getElem?_toArray, List.getElem?_cons_succ, List.getElem?_cons_zero]; exact rfl
            · rfl
            · kernel_rfl
            · rfl
            intro w' hw'
            have HYw := Lib.hid ((HY3.out.dr.bl hg).bl hw')
            have HJw := Lib.hid ((HJc.out _).bel ((HJc.out _).bel HJ3.out (bel_bl (bel_dr (Below.refl _ W3)) hg)) hw')
            refine ⟨w'.setRow b #[.int .i64 u1, .int .i64 u2, .int .i64 u3], store_row_run 39 (.tmp 4) (.tmp 30) rfl b rfl [.int .i64 u1, .int .i64 u2, .int .i64 u3] rfl 39 [.int .i64 y1, .int .i64 y2, .int .i64 y3] HYw.out (by kernel_rfl) rfl (by simp [Value.oneCell']), kept_row (S := fun i => i = b) rfl _, ?_⟩
            have HYs : RowKit.Hid (Whole (w'.setRow b #[.int .i64 u1, .int .i64 u2, .int .i64 u3]) b 39 [.int .i64 u1, .int .i64 u2, .int .i64 u3]) := Lib.hid (Whole.row HYw.out [.int .i64 u1, .int .i64 u2, .int .i64 u3])
            have HXs : RowKit.Hid (Whole (w'.setRow b #[.int .i64 u1, .int .i64 u2, .int .i64 u3]) bx 39 [.int .i64 x1, .int .i64 x2, .int .i64 x3]) := Lib.hid (((HX3.out.dr.bl hg).bl hw').row_far (by omega) _)
            have HNs : RowKit.Hid (Whole (w'.setRow b #[.int .i64 u1, .int .i64 u2, .int .i64 u3]) bn 84 [.map (some bm)]) := Lib.hid (((HN3.out.dr.bl hg).bl hw').row_far (by omega) _)
            have HMs : RowKit.Hid (MapD (w'.setRow b #[.int .i64 u1, .int .i64 u2, .int .i64 u3]) bm q (opV g) Sk) := Lib.hid (((HM3.out.dr.bl hg).bl hw').kept (S' := fun i => i = b) (kept_row (S := fun i => i = b) rfl _) (by omega))
            have HJs := Lib.hid ((HJc.out _).row HJw.out #[.int .i64 u1, .int .i64 u2, .int .i64 u3])
            obtain ⟨V1, gV1⟩ : ∃ z, w'.setRow b #[.int .i64 u1, .int .i64 u2, .int .i64 u3] = z := ⟨_, rfl⟩
            rw [gV1] at HYs HXs HNs HMs HJs ⊢
            clear hw' hg gV1 HYw HJw HX3 HN3 HM3 HY3 HJ3 HLK HLd
            apply wpR_next 8 (some 5)
            · simp only [List.getElem?_toArray, List.getElem?_cons_succ, List.getElem?_cons_zero]; exact rfl
            · rfl
            · kernel_rfl
            · kernel_rfl
            · kernel_rfl
            · exact fun _ _ _ _ h => h
            apply Exists.intro
            apply And.intro
            · apply yr_run; rfl; intro w' hw'; go_simp; (try with_reducible rfl)
            simp only [Act.put, List.setIfInBounds_toArray, List.set_cons_zero, List.set_cons_succ]
            refine wpR_done (by kernel_rfl) ?_ _
            intro W8 hw8
            have HX8 := Lib.hid (HXs.out.bl hw8)
            have HN8 := Lib.hid (HNs.out.bl hw8)
            have HM8 := Lib.hid (HMs.out.bl hw8)
            have HY8 := Lib.hid (HYs.out.bl hw8)
            have HJ8 := Lib.hid ((HJc.out _).bel HJs.out hw8)
            clear hw8 HXs HNs HMs HYs HJs
            have c0 := HX8.out.cell (i := 0) rfl
            have c1 := HX8.out.cell (i := 1) rfl
            have c2 := HX8.out.cell (i := 2) rfl
            have e0 := HY8.out.cell (i := 0) rfl
            have e1 := HY8.out.cell (i := 1) rfl
            have e2 := HY8.out.cell (i := 2) rfl
            by_cases hux : (u1, u2, u3) = (x1, x2, x3)
            · have hq : ∀ W, (binOp .eql 39 (.agg #[.int .i64 u1, .int .i64 u2, .int .i64 u3]) (.agg #[.int .i64 x1, .int .i64 x2, .int .i64 x3])).run Try.prog W = .ok (.bool true) W := fun W => by
                have e := eq_dart_run (u1, u2, u3) (x1, x2, x3) W
                rw [decide_eq_true hux] at e
                exact e
              have HFin : RowKit.Hid (faceL g N (x1, x2, x3) = (pre ++ [(⟨(y1, y2, y3), Hys.out⟩ : D2)]).map (·.1)) := Lib.hid (by rw [HFt.out, Hto.out, if_pos hux]; simp)
              go_wp2
              refine bodyPost_ret (results_none rfl _ _ _) rfl ?_
              exact ⟨⟨_, rfl⟩, .inl ⟨_, HFin.out.symm, HJ8.out⟩⟩
            · have hq : ∀ W, (binOp .eql 39 (.agg #[.int .i64 u1, .int .i64 u2, .int .i64 u3]) (.agg #[.int .i64 x1, .int .i64 x2, .int .i64 x3])).run Try.prog W = .ok (.bool false) W := fun W => by
                have e := eq_dart_run (u1, u2, u3) (x1, x2, x3) W
                rw [decide_eq_false hux] at e
                exact e
              have HFin : RowKit.Hid ((pre ++ [(⟨(y1, y2, y3), Hys.out⟩ : D2)]).length = j + 1 ∧ wfS (u1, u2, u3) ∧ faceL g N (x1, x2, x3) = (pre ++ [(⟨(y1, y2, y3), Hys.out⟩ : D2)]).map (·.1) ++ trG g (x1, x2, x3) (N - (j + 1)) (u1, u2, u3)) := Lib.hid ⟨by simp [Hpl.out], Hus.out, by rw [HFt.out, Hto.out, if_neg hux]; simp⟩
              clear Hto HFt Hus
              go_wp2
              go_roundw
              case rel => exact ⟨j + 1, _, (u1, u2, u3), by omega, by go_num, rfl, HFin, HJ8, HX8, HN8, HM8, HY8⟩
              case measure => simp [intOf] <;> omega
          · have hu : g (othD (y1, y2, y3)) = none := by simpa using ho
            have hLK : ∀ w', MapD w' bm q (opV g) Sk → (Instr.lookup 84 (.map (some bm)) (.agg #[.int .i64 y1, .int .i64 y2, .int .i64 (1 - y3)]) true).run Try.prog w' = .ok (.tuple #[.agg #[.int .i64 0, .int .i64 0, .int .i64 0], .bool false]) w' := fun w' h => by
              have e := h.mapF.look (x := othD (y1, y2, y3)) Try.underlying84 (zero_dartV w') Hys.out.oth.1
              rw [opV_none hu] at e
              exact e
            have HFin : RowKit.Hid (faceL g N (x1, x2, x3) = (pre ++ [(⟨(y1, y2, y3), Hys.out⟩ : D2)]).map (·.1)) := Lib.hid (by rw [HFt.out, trG, hu]; simp)
            have HLK := Lib.hid hLK
            clear hLK ho hu
            go_upto_region 6 with fail
            have HLd : RowKit.Hid (∀ W', Ext W3.drew W' → W'.cell? ⟨b, 0, none⟩ = some (.int .i64 y1) ∧ W'.cell? ⟨b, 1, none⟩ = some (.int .i64 y2) ∧ W'.cell? ⟨b, 2, none⟩ = some (.int .i64 y3) ∧ W'.cell? ⟨bn, 0, none⟩ = some (.map (some bm))) :=
              Lib.hid (fun W' h => ⟨(HY3.out.dr.bl h).cell (i := 0) rfl, (HY3.out.dr.bl h).cell (i := 1) rfl, (HY3.out.dr.bl h).cell (i := 2) rfl, (HN3.out.dr.bl h).cell (i := 0) rfl⟩)
            refine wp_region_in3 7 6 (fun i => i = b) (gamL [some (.map (some bm)), some (.agg #[.int .i64 y1, .int .i64 y2, .int .i64 y3]), some (.agg #[.int .i64 y1, .int .i64 y2, .int .i64 (1 - y3)]), some (.tuple #[.agg #[.int .i64 0, .int .i64 0, .int .i64 0], .bool false]), some (.tuple #[.agg #[.int .i64 0, .int .i64 0, .int .i64 0], .bool false]), some (.agg #[.int .i64 0, .int .i64 0, .int .i64 0]), some (.bool false)] 99 0 0 []) (Ext W3.drew) (by kernel_rfl) (by kernel_rfl) (by kernel_rfl) (by kernel_rfl) (by kernel_rfl) (by kernel_rfl) (by simp only [List.getElem?_toArray, List.getElem?_cons_succ, List.getElem?_cons_zero]; exact rfl) (by kernel_rfl) (by kernel_rfl) (by kernel_rfl) ?_ (fun i v w1 w2 h hx => gamL_up i v w1 w2 h hx) (fun _ _ h k => h.trans k) (Ext.refl _) ?_ ?_ ?_
            · exact fun _ _ _ _ h => h
            · intro i hi9
              have hcase : i = 0 ∨ i = 1 ∨ i = 2 ∨ i = 3 ∨ i = 4 ∨ i = 5 ∨ i = 6 := by omega
              rcases hcase with rfl | rfl | rfl | rfl | rfl | rfl | rfl
              · intro o ho x y hg hdep
                simp only [List.getElem?_toArray, List.getElem?_cons_succ, List.getElem?_cons_zero, Option.some.injEq] at ho
                subst ho
                obtain ⟨hl0, hl1, hl2, hl3⟩ := HLd.out _ hg
                simp only [dsts, List.map_cons, List.map_nil, putAll, Act.put, List.setIfInBounds_toArray, List.set_cons_zero, List.set_cons_succ]
                refine .inl ⟨by rfl, ?_⟩
                go_simp
                exact ⟨Ext.refl _, rfl⟩
              · intro o ho x y hg hdep
                simp only [List.getElem?_toArray, List.getElem?_cons_succ, List.getElem?_cons_zero, Option.some.injEq] at ho
                subst ho
                obtain ⟨hl0, hl1, hl2, hl3⟩ := HLd.out _ hg
                simp only [dsts, List.map_cons, List.map_nil, putAll, Act.put, List.setIfInBounds_toArray, List.set_cons_zero, List.set_cons_succ]
                refine .inl ⟨by rfl, ?_⟩
                go_simp
                exact ⟨Ext.refl _, rfl⟩
              · intro o ho x y hg hdep
                simp only [List.getElem?_toArray, List.getElem?_cons_succ, List.getElem?_cons_zero, Option.some.injEq] at ho
                subst ho
                have d1 : x 1 = .agg #[.int .i64 y1, .int .i64 y2, .int .i64 y3] := hdep 1 (by decide)
                simp only [dsts, List.map_cons, List.map_nil, putAll, Act.put, List.setIfInBounds_toArray, List.set_cons_zero, List.set_cons_succ]
                simp only [d1]
                refine .inl ⟨by rfl, outT_call (by go_simp; first | done | exact ⟨rfl, rfl⟩ | with_reducible rfl) ?_⟩
                refine (show Calls Try.prog 84 #[.agg #[.int .i64 y1, .int .i64 y2, .int .i64 y3]] y (fun e w'' => e = .returned (.agg #[.int .i64 y1, .int .i64 y2, .int .i64 (1 - y3)]) ∧ Below y.heap.size y w'') from otherF_any (y1, y2, y3) Hys.out y).mono ?_
                rintro e w2 ⟨rfl, hb⟩
                exact ⟨_, rfl, hb, rfl⟩
              · intro o ho x y hg hdep
                simp only [List.getElem?_toArray, List.getElem?_cons_succ, List.getElem?_cons_zero, Option.some.injEq] at ho
                subst ho
                have d0 : x 0 = .map (some bm) := hdep 0 (by decide)
                have d2 : x 2 = .agg #[.int .i64 y1, .int .i64 y2, .int .i64 (1 - y3)] := hdep 2 (by decide)
                simp only [dsts, List.map_cons, List.map_nil, putAll, Act.put, List.setIfInBounds_toArray, List.set_cons_zero, List.set_cons_succ]
                simp only [d0, d2]
                refine .inl ⟨by rfl, outT_run (w' := y) (exec_mapLook (b := some bm) (by rfl) (by rfl) (by rfl) (HLK.out y (HM3.out.dr.bl hg))) (Ext.refl _) ?_⟩
                exact rfl
              · intro o ho x y hg hdep
                simp only [List.getElem?_toArray, List.getElem?_cons_succ, List.getElem?_cons_zero, Option.some.injEq] at ho
                subst ho
                have d3 : x 3 = .tuple #[.agg #[.int .i64 0, .int .i64 0, .int .i64 0], .bool false] := hdep 3 (by decide)
                simp only [dsts, List.map_cons, List.map_nil, putAll, Act.put, List.setIfInBounds_toArray, List.set_cons_zero, List.set_cons_succ]
                simp only [d3]
                refine .inl ⟨by rfl, ?_⟩
                go_simp
                exact ⟨Ext.refl _, rfl⟩
              · intro o ho x y hg hdep
                simp only [List.getElem?_toArray, List.getElem?_cons_succ, List.getElem?_cons_zero, Option.some.injEq] at ho
                subst ho
                have d4 : x 4 = .tuple #[.agg #[.int .i64 0, .int .i64 0, .int .i64 0], .bool false] := hdep 4 (by decide)
                simp only [dsts, List.map_cons, List.map_nil, putAll, Act.put, List.setIfInBounds_toArray, List.set_cons_zero, List.set_cons_succ]
                simp only [d4]
                refine .inl ⟨by rfl, ?_⟩
                go_simp
                exact ⟨Ext.refl _, rfl⟩
              · intro o ho x y hg hdep
                simp only [List.getElem?_toArray, List.getElem?_cons_succ, List.getElem?_cons_zero, Option.some.injEq] at ho
                subst ho
                have d4 : x 4 = .tuple #[.agg #[.int .i64 0, .int .i64 0, .int .i64 0], .bool false] := hdep 4 (by decide)
                simp only [dsts, List.map_cons, List.map_nil, putAll, Act.put, List.setIfInBounds_toArray, List.set_cons_zero, List.set_cons_succ]
                simp only [d4]
                refine .inl ⟨by rfl, ?_⟩
                go_simp
                exact ⟨Ext.refl _, rfl⟩
            · intro x y hg hall
              have d4 : x 4 = .tuple #[.agg #[.int .i64 0, .int .i64 0, .int .i64 0], .bool false] := hall 4 (by decide) (by decide)
              simp only [dsts, List.map_cons, List.map_nil, putAll, Act.put, List.setIfInBounds_toArray, List.set_cons_zero, List.set_cons_succ]
              simp only [d4]
              refine ⟨.bool false, ?_, rfl⟩
              apply yr_run; rfl; intro w' hw'; go_simp; (try with_reducible rfl)
            intro x y hg hall
            have d0 : x 0 = .map (some bm) := hall 0 (by decide)
            have d1 : x 1 = .agg #[.int .i64 y1, .int .i64 y2, .int .i64 y3] := hall 1 (by decide)
            have d2 : x 2 = .agg #[.int .i64 y1, .int .i64 y2, .int .i64 (1 - y3)] := hall 2 (by decide)
            have d3 : x 3 = .tuple #[.agg #[.int .i64 0, .int .i64 0, .int .i64 0], .bool false] := hall 3 (by decide)
            have d4 : x 4 = .tuple #[.agg #[.int .i64 0, .int .i64 0, .int .i64 0], .bool false] := hall 4 (by decide)
            have d5 : x 5 = .agg #[.int .i64 0, .int .i64 0, .int .i64 0] := hall 5 (by decide)
            have d6 : x 6 = .bool false := hall 6 (by decide)
            simp only [dsts, List.map_cons, List.map_nil, putAll, Act.put, List.setIfInBounds_toArray, List.set_cons_zero, List.set_cons_succ]
            simp only [d0, d1, d2, d3, d4, d5, d6]
            clear hall d0 d1 d2 d3 d4 d5 d6
            apply wpR_store 7
            · simp only [List.getElem?_toArray, List.getElem?_cons_succ, List.getElem?_cons_zero]; exact rfl
            · rfl
            · kernel_rfl
            · rfl
            intro w' hw'
            have HYw := Lib.hid ((HY3.out.dr.bl hg).bl hw')
            have HJw := Lib.hid ((HJc.out _).bel ((HJc.out _).bel HJ3.out (bel_bl (bel_dr (Below.refl _ W3)) hg)) hw')
            refine ⟨w'.setRow b #[.int .i64 0, .int .i64 0, .int .i64 0], store_row_run 39 (.tmp 4) (.tmp 30) rfl b rfl [.int .i64 0, .int .i64 0, .int .i64 0] rfl 39 [.int .i64 y1, .int .i64 y2, .int .i64 y3] HYw.out (by kernel_rfl) rfl (by simp [Value.oneCell']), kept_row (S := fun i => i = b) rfl _, ?_⟩
            have HYs : RowKit.Hid (Whole (w'.setRow b #[.int .i64 0, .int .i64 0, .int .i64 0]) b 39 [.int .i64 0, .int .i64 0, .int .i64 0]) := Lib.hid (Whole.row HYw.out [.int .i64 0, .int .i64 0, .int .i64 0])
            have HXs : RowKit.Hid (Whole (w'.setRow b #[.int .i64 0, .int .i64 0, .int .i64 0]) bx 39 [.int .i64 x1, .int .i64 x2, .int .i64 x3]) := Lib.hid (((HX3.out.dr.bl hg).bl hw').row_far (by omega) _)
            have HNs : RowKit.Hid (Whole (w'.setRow b #[.int .i64 0, .int .i64 0, .int .i64 0]) bn 84 [.map (some bm)]) := Lib.hid (((HN3.out.dr.bl hg).bl hw').row_far (by omega) _)
            have HMs : RowKit.Hid (MapD (w'.setRow b #[.int .i64 0, .int .i64 0, .int .i64 0]) bm q (opV g) Sk) := Lib.hid (((HM3.out.dr.bl hg).bl hw').kept (S' := fun i => i = b) (kept_row (S := fun i => i = b) rfl _) (by omega))
            have HJs := Lib.hid ((HJc.out _).row HJw.out #[.int .i64 0, .int .i64 0, .int .i64 0])
            obtain ⟨V1, gV1⟩ : ∃ z, w'.setRow b #[.int .i64 0, .int .i64 0, .int .i64 0] = z := ⟨_, rfl⟩
            rw [gV1] at HYs HXs HNs HMs HJs ⊢
            clear hw' hg gV1 HYw HJw HX3 HN3 HM3 HY3 HJ3 HLK HLd
            apply wpR_next 8 (some 5)
            · simp only [List.getElem?_toArray, List.getElem?_cons_succ, List.getElem?_cons_zero]; exact rfl
            · rfl
            · kernel_rfl
            · kernel_rfl
            · kernel_rfl
            · exact fun _ _ _ _ h => h
            apply Exists.intro
            apply And.intro
            · apply yr_run; rfl; intro w' hw'; go_simp; (try with_reducible rfl)
            simp only [Act.put, List.setIfInBounds_toArray, List.set_cons_zero, List.set_cons_succ]
            refine wpR_done (by kernel_rfl) ?_ _
            intro W8 hw8
            have HX8 := Lib.hid (HXs.out.bl hw8)
            have HN8 := Lib.hid (HNs.out.bl hw8)
            have HM8 := Lib.hid (HMs.out.bl hw8)
            have HY8 := Lib.hid (HYs.out.bl hw8)
            have HJ8 := Lib.hid ((HJc.out _).bel HJs.out hw8)
            clear hw8 HXs HNs HMs HYs HJs
            have c0 := HX8.out.cell (i := 0) rfl
            have c1 := HX8.out.cell (i := 1) rfl
            have c2 := HX8.out.cell (i := 2) rfl
            have e0 := HY8.out.cell (i := 0) rfl
            have e1 := HY8.out.cell (i := 1) rfl
            have e2 := HY8.out.cell (i := 2) rfl
            go_wp2
            refine bodyPost_ret (results_none rfl _ _ _) rfl ?_
            exact ⟨⟨_, rfl⟩, .inl ⟨_, HFin.out.symm, HJ8.out⟩⟩
        · have HJ3 := Lib.hid hJx3
          clear hJx3
          gi_wp2
          have HFin : RowKit.Hid ((pre ++ [(⟨(y1, y2, y3), Hys.out⟩ : D2)]).map (·.1) <+: faceL g N (x1, x2, x3)) := Lib.hid ⟨(match g (othD (y1, y2, y3)) with | none => [] | some z => if z = (x1, x2, x3) then [] else trG g (x1, x2, x3) (N - (j + 1)) z), by rw [HFt.out, trG]; simp⟩
          go_wp2
          refine bodyPost_ret (results_none rfl _ _ _) rfl ?_
          exact ⟨⟨_, rfl⟩, .inr ⟨_, HFin.out, HJ3.out⟩⟩
      · obtain rfl : N = j := by omega
        go_wp2
        go_end0
        exact ⟨⟨_, rfl⟩, .inl ⟨pre, by have h := HF.out.2.2; rw [Nat.sub_self] at h; rw [h]; simp [trG], HJ.out⟩⟩
  · have hgn : g (x1, x2, x3) = none := by simpa using hgx
    have Hz := Lib.hid (opV_none hgn)
    have Hfl : RowKit.Hid (faceL g N (x1, x2, x3) = []) := Lib.hid (by unfold faceL; rw [if_neg hgx])
    clear hgx hgn
    go_upto_region 2 with (at_lookup; refine wl_mapLook rfl _ _ rfl rfl HM0.out.mapF Try.underlying84 (zero_dartV _) (x := (x1, x2, x3)) Hx.out rfl ?_; rw [Hz.out]; simp only [Option.getD_some, Option.getD_none, Option.isSome_some, Option.isSome_none, dV])
    go_wp2
    refine bodyPost_ret (results_none rfl _ _ _) rfl ?_
    exact ⟨⟨_, rfl⟩, .inl ⟨[], by rw [Hfl.out]; rfl, (HJc.out []).bel HJ0.out (below1 _ _)⟩⟩
end Go.Proofs.Ytpindjknngcccaa
