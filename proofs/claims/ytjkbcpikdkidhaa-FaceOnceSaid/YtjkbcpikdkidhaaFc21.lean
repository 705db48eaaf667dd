/- FaceOnce's walk. -/
import Derived.Test.YtjkbcpikdkidhaaFc20
namespace Go.Proofs.Ytjkbcpikdkidhaa
open Go.RowKit
set_option linter.unusedSimpArgs false
set_option linter.unusedVariables false


theorem Ow.beside {w W W' : World} {B size n : Nat} {e : TypeId} {v : Value} {xs : List Value} {r : Option Nat} (h : Ow w B e size v n xs W) (hg : W.grownBy W' r) (hne : v.ownBlock ≠ r) (hB : ∀ k, r = some k → B ≤ k) : Ow w B e size v n xs W' :=
  ⟨h.own.kept hg (.inr hne), h.below.grown hg h.below.size (fun k e => Nat.le_trans h.lo (hB k e)), h.lo, Nat.le_trans h.hi hg.size⟩
theorem Ow.ne3 {w W : World} {B size n : Nat} {e : TypeId} {v u u' : Value} {xs : List Value} (h : Ow w B e size v n xs W) (hne : v.ownBlock ≠ u.ownBlock) (ho : u'.ownBlock = u.ownBlock ∨ u'.ownBlock = some W.heap.size) : v.ownBlock ≠ u'.ownBlock := by
  rcases ho with ho | ho
  · rw [ho]; exact hne
  · rw [ho]
    intro e
    have := (h.own.lt _ e).2
    omega
theorem Ow.bl {w W W2 : World} {B size n : Nat} {e : TypeId} {v : Value} {xs : List Value} (h : Ow w B e size v n xs W) (hb : Below W.heap.size W W2) : Ow w B e size v n xs W2 := h.up hb
theorem Ow.al {w W : World} {B size n : Nat} {e : TypeId} {v : Value} {xs : List Value} (h : Ow w B e size v n xs W) (o : Obj) : Ow w B e size v n xs (W.alloc o) := h.up (below1 W o)
theorem Ow.dr {w W : World} {B size n : Nat} {e : TypeId} {v : Value} {xs : List Value} (h : Ow w B e size v n xs W) : Ow w B e size v n xs W.drew := h.up ((Below.refl _ _).drew)
theorem map_take_next (g : D → D) (L : List D) (i : Nat) (y : D) (h : L[i]? = some y) : (L.take (i + 1)).map g = (L.take i).map g ++ [g y] := by
  rw [List.take_add_one, h, List.map_append]
  rfl
theorem map_take_new (g : D → D) (L R : List D) (hn : L.Nodup) (hs : ∀ x ∈ L, x ∈ R) (hi : ∀ x ∈ R, ∀ y ∈ R, g x = g y → x = y) (i : Nat) (y : D) (h : L[i]? = some y) : ¬ g y ∈ (L.take i).map g := fun hm => by
  obtain ⟨z, hz, e⟩ := List.mem_map.1 hm
  have hzL := List.mem_of_mem_take hz
  have := hi z (hs z hzL) y (hs y (List.mem_of_getElem? h)) e
  subst this
  obtain ⟨j, hj, ej⟩ := List.getElem_of_mem hz
  rw [List.length_take] at hj
  rw [List.getElem_take] at ej
  obtain ⟨hi2, e2⟩ := List.getElem?_eq_some_iff.1 h
  have := (List.getElem_inj hn).1 (ej.trans e2.symm)
  omega
theorem flat_next (X : List (List D)) (i : Nat) (F : List D) (h : X[i]? = some F) : (X.take (i + 1)).flatten = (X.take i).flatten ++ F := by
  rw [List.take_add_one, h, List.flatten_append]
  simp
theorem flat_small (X : List (List D)) (hX : ∀ l ∈ X, l.length ≤ 80) : ∀ i, (X.take i).flatten.length ≤ i * 80 := fun i => by
  induction i with
  | zero => simp
  | succ i ih =>
    by_cases q : i < X.length
    · rw [flat_next X i X[i] (List.getElem?_eq_getElem q), List.length_append]
      have := hX _ (List.getElem_mem q)
      omega
    · rw [List.take_of_length_le (by omega)]
      rw [List.take_of_length_le (by omega)] at ih
      omega
theorem told_facts {Vs : List VC} {Es : List EC} (h : Formed Vs Es) : (orbsF (phF Vs) 80 (dsE Es) []).flatten.length = (dsE Es).length ∧ ∀ y ∈ dsE Es, y ∈ (orbsF (phF Vs) 80 (dsE Es) []).flatten := by
  obtain ⟨P, hP, e⟩ := orbs_get h
  rw [e]
  refine ⟨?_, fun y hy => (hP.flat_mem h.phi h.l80 y).2 ((h.ds y).1 hy)⟩
  rw [hP.flat_len h.phi h.l80, dsE_len, h.len]
set_option maxRecDepth 100000 in
set_option maxHeartbeats 4000000 in
theorem law_once (A : Option Addr) (n c : Nat) (Vs : List VC) (B : Option Addr) (m k : Nat) (Es : List EC) (x1 x2 x3 y1 y2 y3 : Int) (hx : In64 x1 ∧ In64 x2 ∧ In64 x3) (hy : In64 y1 ∧ In64 y2 ∧ In64 y3) (w : World) (h : DgIn w A n c Vs B m k Es) (hg : GoodD Vs Es) (hz : SmD n m Vs) :
    Calls Try.prog 5 #[.agg #[.slice A n c, .slice B m k], .agg #[.int .i64 x1, .int .i64 x2, .int .i64 x3], .agg #[.int .i64 y1, .int .i64 y2, .int .i64 y3]] w fun e w' => e = .returned (.bool true) ∧ Below w.heap.size w w' := by
  have HFo := Lib.hid (fun W (h : DgIn W A n c Vs B m k Es) => formed05_any A n c Vs B m k Es W h hg hz)
  obtain ⟨fo, gfo⟩ : ∃ z, (formD Vs Es == 0) = z := ⟨_, rfl⟩
  rw [gfo] at HFo
  have Gfo := Lib.hid gfo
  have HDa := Lib.hid h
  have HGd := Lib.hid hg
  have Hz := Lib.hid hz
  clear h hg hz gfo
  go_enter Try.func5, Try.ntmps5
  go_wp2_with fail
  refine (shown05_any _).mono ?_
  rintro e w1 ⟨rfl, hb1⟩
  have Da_2 := Lib.hid ((((HDa.out.al (.cells #[.slice A n c, .slice B m k] 25)).al (.cells #[.int .i64 x1, .int .i64 x2, .int .i64 x3] 29)).al (.cells #[.int .i64 y1, .int .i64 y2, .int .i64 y3] 29)).bl hb1)
  have D0_2 := Lib.hid ((((show Whole (w.alloc (.cells #[.slice A n c, .slice B m k] 25)) (w.heap.size) (25) ([.slice A n c, .slice B m k]) from Whole.new2 (by first | rfl | simp)).al (.cells #[.int .i64 x1, .int .i64 x2, .int .i64 x3] 29)).al (.cells #[.int .i64 y1, .int .i64 y2, .int .i64 y3] 29)).bl hb1)
  have X_2 := Lib.hid (((show Whole ((w.alloc (.cells #[.slice A n c, .slice B m k] 25)).alloc (.cells #[.int .i64 x1, .int .i64 x2, .int .i64 x3] 29)) ((w.heap.size + 1)) (29) ([.int .i64 x1, .int .i64 x2, .int .i64 x3]) from Whole.new2 (by first | rfl | simp)).al (.cells #[.int .i64 y1, .int .i64 y2, .int .i64 y3] 29)).bl hb1)
  have Y_2 := Lib.hid ((show Whole (((w.alloc (.cells #[.slice A n c, .slice B m k] 25)).alloc (.cells #[.int .i64 x1, .int .i64 x2, .int .i64 x3] 29)).alloc (.cells #[.int .i64 y1, .int .i64 y2, .int .i64 y3] 29)) ((w.heap.size + 1 + 1)) (29) ([.int .i64 y1, .int .i64 y2, .int .i64 y3]) from Whole.new2 (by first | rfl | simp)).bl hb1)
  have Bel_2 := Lib.hid (bel_bl (bel_al (bel_al (bel_al (Below.refl _ w) (.cells #[.slice A n c, .slice B m k] 25)) (.cells #[.int .i64 x1, .int .i64 x2, .int .i64 x3] 29)) (.cells #[.int .i64 y1, .int .i64 y2, .int .i64 y3] 29)) hb1)
  clear HDa
  clear hb1
  have LO_D0_3 : RowKit.Hid (w.heap.size ≤ w.heap.size) := Lib.hid (by omega)
  have LO_X_4 : RowKit.Hid (w.heap.size ≤ (w.heap.size + 1)) := Lib.hid (by omega)
  have NE_D0_X : RowKit.Hid (w.heap.size ≠ (w.heap.size + 1)) := Lib.hid (by omega)
  have LO_Y_5 : RowKit.Hid (w.heap.size ≤ (w.heap.size + 1 + 1)) := Lib.hid (by omega)
  have NE_D0_Y : RowKit.Hid (w.heap.size ≠ (w.heap.size + 1 + 1)) := Lib.hid (by omega)
  have NE_X_Y : RowKit.Hid ((w.heap.size + 1) ≠ (w.heap.size + 1 + 1)) := Lib.hid (by omega)
  have lw6 : (w1).cell? ⟨w.heap.size, 0, none⟩ = some (.slice A n c) := D0_2.out.cell (i := 0) rfl
  have lw7 : (w1).cell? ⟨w.heap.size, 1, none⟩ = some (.slice B m k) := D0_2.out.cell (i := 1) rfl
  go_wp2_with fail
  clear lw6 lw7
  refine (HFo.out _ Da_2.out).mono ?_
  rintro e w8 ⟨rfl, hb8⟩
  have Da_9 := Lib.hid (Da_2.out.bl hb8)
  have D0_9 := Lib.hid (D0_2.out.bl hb8)
  have X_9 := Lib.hid (X_2.out.bl hb8)
  have Y_9 := Lib.hid (Y_2.out.bl hb8)
  have Bel_9 := Lib.hid (bel_bl Bel_2.out hb8)
  clear Da_2 D0_2 X_2 Y_2 Bel_2
  clear hb8
  by_cases hfo : fo = false
  · subst hfo
    go_wp2
    go_ret
    exact ⟨rfl, Bel_9.out⟩
  obtain rfl : fo = true := by simpa using hfo
  have HFm : RowKit.Hid (Formed Vs Es) := Lib.hid ((form0 Vs Es).1 (eq_of_beq Gfo.out))
  have Hsm := Lib.hid (HFm.out.small Da_9.out)
  have Hlv : RowKit.Hid (Vs.length = n) := Lib.hid (Da_9.out.v.rlen vC_len (by decide))
  have Hlw : RowKit.Hid (Es.length = m) := Lib.hid (Da_9.out.e.rlen eC_len (by decide))
  have hn24 : n ≤ 24 := Hsm.out.1
  have hm40 : m ≤ 40 := Hsm.out.2.1
  have HWd : RowKit.Hid (∀ v ∈ Vs, ∀ d ∈ v.2.1.2.2.2, wfD d) := Lib.hid HGd.out.v
  have Hr0 : RowKit.Hid (∀ x ∈ Vs, x.2.1.2.1 ≤ 1000000) := Lib.hid (fun x hx => by have := Hsm.out.2.2 x hx; omega)
  clear hfo HFo Gfo
  have HSxy : RowKit.Hid (∀ W, DgIn W A n c Vs B m k Es → Calls Try.prog 28 #[.agg #[.slice A n c, .slice B m k], .agg #[.int .i64 x1, .int .i64 x2, .int .i64 x3], .agg #[.int .i64 y1, .int .i64 y2, .int .i64 y3]] W fun e w' => e = .returned (.bool (decide ((y1, y2, y3) ∈ faceD Vs (x1, x2, x3)))) ∧ Below W.heap.size W w') := Lib.hid (fun W h => share5_any A n c Vs B m k Es x1 x2 x3 y1 y2 y3 W h HFm.out HGd.out (wfD_in hx))
  have HSyx : RowKit.Hid (∀ W, DgIn W A n c Vs B m k Es → Calls Try.prog 28 #[.agg #[.slice A n c, .slice B m k], .agg #[.int .i64 y1, .int .i64 y2, .int .i64 y3], .agg #[.int .i64 x1, .int .i64 x2, .int .i64 x3]] W fun e w' => e = .returned (.bool (decide ((y1, y2, y3) ∈ faceD Vs (x1, x2, x3)))) ∧ Below W.heap.size W w') := Lib.hid (fun W h => by
    have h1 := share5_any A n c Vs B m k Es y1 y2 y3 x1 x2 x3 W h HFm.out HGd.out (wfD_in hy)
    rw [decide_eq_decide.2 (faceD_symm HFm.out (y1, y2, y3) (x1, x2, x3))] at h1
    exact h1)
  obtain ⟨sh, gsh⟩ : ∃ z, decide ((y1, y2, y3) ∈ faceD Vs (x1, x2, x3)) = z := ⟨_, rfl⟩
  rw [gsh] at HSxy HSyx
  have HDa5 : RowKit.Hid (∀ W, DgIn W A n c Vs B m k Es → Calls Try.prog 21 #[.agg #[.slice A n c, .slice B m k]] W fun e w' => ∃ A' c', e = .returned (.slice A' (dsE Es).length c') ∧ w'.ownsRow (W.heap.size + 1) 29 3 (.slice A' (dsE Es).length c') (dsE Es).length (dartsV (dsE Es)) ∧ Below W.heap.size W w') := Lib.hid (fun W h => darts5_any A n c Vs B m k Es W h HFm.out HGd.out)
  have HFa : RowKit.Hid (∀ W, DgIn W A n c Vs B m k Es → Calls Try.prog 26 #[.agg #[.slice A n c, .slice B m k]] W fun e w' => ∃ A' c' X, e = .returned (.slice A' X.length c') ∧ RowsIn w' (W.heap.size + 1) 35 29 3 encD A' X.length c' X ∧ X.map (·.2.2) = orbsF (phF Vs) 80 (dsE Es) [] ∧ Below W.heap.size W w') := Lib.hid (fun W h => faces5_any A n c Vs B m k Es W h HFm.out HGd.out)
  have HSg : RowKit.Hid (∀ u1 u2 u3 : Int, (u1, u2, u3) ∈ dsE Es → ∀ W, DgIn W A n c Vs B m k Es → Calls Try.prog 16 #[.agg #[.slice A n c, .slice B m k], .agg #[.int .i64 u1, .int .i64 u2, .int .i64 u3]] W (GivesD W (sgF Vs (u1, u2, u3)) true)) := Lib.hid (fun u1 u2 u3 hu W h => by
    have h1 := sigma_any A n c Vs B m k Es u1 u2 u3 W h HFm.out
    rw [decide_eq_true ((HFm.out.ds _).1 hu)] at h1
    exact h1)
  have HPh : RowKit.Hid (∀ u1 u2 u3 : Int, (u1, u2, u3) ∈ dsE Es → ∀ W, DgIn W A n c Vs B m k Es → Calls Try.prog 18 #[.agg #[.slice A n c, .slice B m k], .agg #[.int .i64 u1, .int .i64 u2, .int .i64 u3]] W (GivesD W (phF Vs (u1, u2, u3)) true)) := Lib.hid (fun u1 u2 u3 hu W h => by
    have hr := (HFm.out.ds _).1 hu
    obtain ⟨e, _, _, q⟩ := (HFm.out.mem _).1 hr
    have h1 := phi_any A n c Vs B m k Es u1 u2 u3 W h HFm.out (by simp only at q; omega)
    rw [if_pos hr, decide_eq_true hr] at h1
    exact h1)
  have HOt : RowKit.Hid (∀ u1 u2 u3 : Int, (u1, u2, u3) ∈ dsE Es → ∃ o1 o2 o3, (∀ W, Calls Try.prog 30 #[.agg #[.int .i64 u1, .int .i64 u2, .int .i64 u3]] W fun e w' => e = .returned (.agg #[.int .i64 o1, .int .i64 o2, .int .i64 o3]) ∧ Below W.heap.size W w') ∧ ∀ W, DgIn W A n c Vs B m k Es → Calls Try.prog 16 #[.agg #[.slice A n c, .slice B m k], .agg #[.int .i64 o1, .int .i64 o2, .int .i64 o3]] W (GivesD W (phF Vs (u1, u2, u3)) true)) := Lib.hid (fun u1 u2 u3 hu => by
    have hr := (HFm.out.ds _).1 hu
    obtain ⟨e, _, _, q⟩ := (HFm.out.mem _).1 hr
    have e1 := othW_in (d := (u1, u2, u3)) (by have q2 : u3 = 0 ∨ u3 = 1 := q; show 0 ≤ u3 ∧ u3 ≤ 1; omega)
    refine ⟨(othW (u1, u2, u3)).1, (othW (u1, u2, u3)).2.1, (othW (u1, u2, u3)).2.2, fun W => rother_w u1 u2 u3 W, fun W h => ?_⟩
    have h1 := sigma_any A n c Vs B m k Es (othW (u1, u2, u3)).1 (othW (u1, u2, u3)).2.1 (othW (u1, u2, u3)).2.2 W h HFm.out
    rw [show ((othW (u1, u2, u3)).1, (othW (u1, u2, u3)).2.1, (othW (u1, u2, u3)).2.2) = othD (u1, u2, u3) from e1, decide_eq_true (HFm.out.oth hr)] at h1
    exact h1)
  obtain ⟨htl, htm⟩ := told_facts HFm.out
  have hos := (orbs_small HFm.out)
  have hSn : RowKit.Hid (∀ i y, (dsE Es)[i]? = some y → ¬ sgF Vs y ∈ ((dsE Es).take i).map (sgF Vs)) := Lib.hid (fun i y h => map_take_new _ _ _ HFm.out.dsn (fun x hx => (HFm.out.ds x).1 hx) (sig_pm HFm.out.once).inj i y h)
  have hPn : RowKit.Hid (∀ i y, (dsE Es)[i]? = some y → ¬ phF Vs y ∈ ((dsE Es).take i).map (phF Vs)) := Lib.hid (fun i y h => map_take_new _ _ _ HFm.out.dsn (fun x hx => (HFm.out.ds x).1 hx) HFm.out.phi.inj i y h)
  have hdl : (dsE Es).length = 2 * m := by rw [dsE_len, Hlw.out]
  obtain ⟨O, gO⟩ : ∃ z, orbsF (phF Vs) 80 (dsE Es) [] = z := ⟨_, rfl⟩
  rw [gO] at HFa htl htm hos
  obtain ⟨L, gL⟩ : ∃ z, dsE Es = z := ⟨_, rfl⟩
  rw [gL] at HDa5 HSg HPh HOt htl htm hSn hPn hdl
  have HLl := Lib.hid hdl
  have HTl := Lib.hid htl
  have HTm := Lib.hid htm
  have HOs := Lib.hid hos
  have hL80 : L.length ≤ 80 := by omega
  clear gsh gO gL htl htm hos hdl hx hy
  obtain ⟨i0, hi0, hz0, hz1, hz2⟩ := info_partsD info_dartD
  have HD5 := Lib.hid (Da_9.out)
  have HX5 := Lib.hid (D0_9.out)
  have HXx := Lib.hid (X_9.out)
  have HXy := Lib.hid (Y_9.out)
  have HB5 := Lib.hid (Bel_9.out)
  clear Da_9 D0_9 X_9 Y_9 Bel_9
  have c0 := HX5.out.cell (i := 0) rfl
  have c1 := HX5.out.cell (i := 1) rfl
  go_wp2_with fail
  clear c0 c1
  refine (HDa5.out _ HD5.out).mono ?_
  rintro e w6 ⟨Al, cl, rfl, hol, hb6⟩
  have HL6 := Lib.hid (own_up (own_base hol (Nat.le_succ _)) (below1 w6 (.cells #[] 29)))
  have HB6 : RowKit.Hid (Below w8.heap.size w8 (w6.alloc (.cells #[] 29))) := Lib.hid (bel_al hb6 (.cells #[] 29))
  have HO6 : RowKit.Hid (Ow w8 w8.heap.size 29 3 (.slice (some ⟨w6.heap.size, 0, none⟩) 0 0) 0 [] (w6.alloc (.cells #[] 29))) := Lib.hid (Ow.new_ (cs := #[]) hb6 (Nat.le_refl _) hb6.size (by unfold maxLen; omega) rfl)
  have HNl : RowKit.Hid (∀ g, (Value.slice Al L.length cl).ownBlock = some g → g < w6.heap.size) := Lib.hid (fun g e => (hol.lt g e).2)
  have c0 := (HX5.out.bl HB6.out).cell (i := 0) rfl
  have c1 := (HX5.out.bl HB6.out).cell (i := 1) rfl
  clear hol hb6
  go_wp2_with fail
  clear c0 c1
  refine (HFa.out _ (HD5.out.bl HB6.out)).mono ?_
  rintro e w7 ⟨Ao, co, X, rfl, hRX, hX, hb7⟩
  have HX7 := Lib.hid hX
  have hxl : X.length ≤ 80 := by
    have q1 := congrArg List.length hX
    rw [List.length_map] at q1
    have := HOs.out.1
    omega
  have hsz6 : w6.heap.size + 1 = (w6.alloc (.cells #[] 29)).heap.size := by simp
  have HP7 : RowKit.Hid (PR w8 w8.heap.size (some ⟨w6.heap.size, 0, none⟩) 0 [] Al cl L Ao co X w7) := Lib.hid ⟨HO6.out.up hb7, own_up HL6.out hb7, ⟨own_base hRX.row (by have := HB6.out.size; omega), hRX.len, fun x hx => own_base (hRX.one x hx) (by have := HB6.out.size; omega), hRX.ne⟩,
    fun g e q => by
      have h1 := HNl.out g e
      have h2 : w6.heap.size = g := Option.some.inj q
      omega, fun x hx g e q => by
      have h1 := ((hRX.one x hx).lt g e).1
      have h2 : w6.heap.size = g := Option.some.inj q
      omega⟩
  obtain ⟨A0, gA0⟩ : ∃ z, some (⟨w6.heap.size, 0, none⟩ : Addr) = z := ⟨_, rfl⟩
  rw [gA0] at HP7
  rw [gA0]
  clear gA0 hRX hX hb7 hsz6 HL6 HB6 HO6 HNl HDa5 HFa
  go_wp2
  go_loopw [10, 12] (fun st si wr => ∃ (i : Nat) (At : Option Addr) (ct : Nat), i ≤ X.length ∧ si = .int .i64 i ∧ st = .slice At ((X.map (·.2.2)).take i).flatten.length ct ∧ RowKit.Hid (PR w8 w8.heap.size At ct ((X.map (·.2.2)).take i).flatten Al cl L Ao co X wr)) (fun _ si _ => X.length - (intOf si).toNat)
  case atStart => exact ⟨0, A0, 0, by omega, rfl, rfl, HP7⟩
  case round =>
    clear HP7
    obtain ⟨i, At, ct, hi, rfl, rfl, HP⟩ := hrel
    obtain ⟨wo, gwo⟩ : ∃ z, wr = z := ⟨_, rfl⟩
    rw [gwo] at HP ⊢
    clear gwo
    by_cases hin : i < X.length
    · obtain ⟨x, hx⟩ : ∃ x, X[i]? = some x := ⟨_, List.getElem?_eq_getElem hin⟩
      obtain ⟨gp, junk, eA, -, -, hcx, -, -⟩ := own_poke (i := 0) (y := x) (u := rwV x) rwC_len HP.out.r.row hx hin (by decide) rfl
      subst eA
      simp only [Nat.mul_one, Nat.add_zero] at hcx
      obtain ⟨pA, pc, F⟩ := x
      replace hcx : wo.cell? ⟨gp, i, none⟩ = some (.slice pA F.length pc) := hcx
      have hm1 : (X.map (·.2.2))[i]? = some F := by rw [List.getElem?_map, hx]; rfl
      have hfl := flat_next _ _ _ hm1
      have hsm := flat_small (X.map (·.2.2)) (fun l hl => HOs.out.2 l (HX7.out ▸ hl)) i
      have hF80 : F.length ≤ 80 := HOs.out.2 F (HX7.out ▸ List.mem_of_getElem? hm1)
      have hi80 : i * 80 ≤ 6400 := by omega
      obtain ⟨A8, c8, w8, hrun, hp8, hb8⟩ := HP.out.tell (List.mem_of_getElem? hx) (by omega)
      rw [← hfl] at hrun hp8
      have HP8 := Lib.hid hp8
      obtain ⟨n8, gn8⟩ : ∃ z, ((X.map (·.2.2)).take (i + 1)).flatten.length = z := ⟨_, rfl⟩
      rw [gn8] at hrun
      have Gn8 := Lib.hid gn8
      have Hrun := Lib.hid hrun
      clear hx hm1 hfl hsm hF80 hi80 hrun hp8 hb8 HP gn8
      go_wp2_with (first
        | (at_builtin
           refine wpList_app rfl (.tmp 39) (.tmp 43) _ rfl rfl rfl Hrun.out ?_
           clear Hrun hcx))
      go_roundw
      case rel => exact ⟨i + 1, A8, c8, by omega, by go_num, by rw [Gn8.out], HP8⟩
      case measure => simp [intOf] <;> omega
    · obtain rfl : X.length = i := by omega
      have hP := HP.out
      rw [List.take_of_length_le (by simp), HX7.out] at hP
      rw [List.take_of_length_le (by simp), HX7.out]
      have HTr : RowKit.Hid (RdS wo wo.heap.size 3 At O.flatten.length ct (dartsV O.flatten)) := Lib.hid (own_rds hP.ow.own)
      have HLr : RowKit.Hid (RdS wo wo.heap.size 3 Al L.length cl (dartsV L)) := Lib.hid (own_rds hP.l)
      have HBo : RowKit.Hid (Below w8.heap.size w8 wo) := Lib.hid hP.ow.below
      rw [HTl.out] at HTr
      rw [HTl.out]
      obtain ⟨T, gT⟩ : ∃ z, O.flatten = z := ⟨_, rfl⟩
      rw [gT] at HTr
      have HTm2 : RowKit.Hid (∀ y ∈ L, y ∈ T) := Lib.hid (by rw [← gT]; exact HTm.out)
      clear hP gT HP HTm HX7 hxl HOs HTl
      go_upto_region 12 with fail
      have HS0 : RowKit.Hid (Ow wo wo.heap.size 29 3 (.slice (some ⟨wo.heap.size, 0, none⟩) 0 0) 0 [] ((wo.alloc (.cells #[] 29)).alloc (.cells #[] 29))) := Lib.hid ((Ow.new_ (cs := #[]) (Below.refl _ _) (Nat.le_refl _) (Nat.le_refl _) (by unfold maxLen; omega) rfl).up (below1 _ _))
      have HP0 : RowKit.Hid (Ow wo wo.heap.size 29 3 (.slice (some ⟨wo.heap.size + 1, 0, none⟩) 0 0) 0 [] ((wo.alloc (.cells #[] 29)).alloc (.cells #[] 29))) := Lib.hid (by
        have h1 := Ow.new_ (W := wo.alloc (.cells #[] 29)) (cs := #[]) (e := 29) (size := 3) (n := 0) (B := wo.heap.size) (below1 wo (.cells #[] 29)) (Nat.le_refl _) (by simp) (by unfold maxLen; omega) rfl
        rw [World.size_alloc] at h1
        exact h1)
      have HN0 : RowKit.Hid ((Value.slice (some ⟨wo.heap.size, 0, none⟩) 0 0).ownBlock ≠ (Value.slice (some ⟨wo.heap.size + 1, 0, none⟩) 0 0).ownBlock) := Lib.hid (fun e => by
        have h2 : some wo.heap.size = some (wo.heap.size + 1) := e
        have := Option.some.inj h2
        omega)
      have HD6 := Lib.hid (HD5.out.bl HBo.out)
      have HX6 := Lib.hid (HX5.out.bl HBo.out)
      go_upto_region 14 with fail
      obtain ⟨S0, gS0⟩ : ∃ z, some (⟨wo.heap.size, 0, none⟩ : Addr) = z := ⟨_, rfl⟩
      obtain ⟨P0, gP0⟩ : ∃ z, some (⟨wo.heap.size + 1, 0, none⟩ : Addr) = z := ⟨_, rfl⟩
      rw [gS0] at HS0 HN0
      rw [gP0] at HP0 HN0
      rw [gS0, gP0]
      clear gS0 gP0
      obtain ⟨wv, gwv⟩ : ∃ z, wo = z := ⟨_, rfl⟩
      rw [gwv] at HTr HLr HBo HS0 HP0 HD6 HX6 ⊢
      clear gwv
      go_wp2
      go_loopw [13, 14, 15] (fun ss sp si wr => ∃ (i : Nat) (As : Option Addr) (cs : Nat) (Ap : Option Addr) (cp : Nat), i ≤ L.length ∧ si = .int .i64 i ∧ ss = .slice As i cs ∧ sp = .slice Ap i cp ∧ RowKit.Hid (Ow wv wv.heap.size 29 3 (.slice As i cs) i (dartsV ((L.take i).map (sgF Vs))) wr) ∧ RowKit.Hid (Ow wv wv.heap.size 29 3 (.slice Ap i cp) i (dartsV ((L.take i).map (phF Vs))) wr) ∧ RowKit.Hid ((Value.slice As i cs).ownBlock ≠ (Value.slice Ap i cp).ownBlock)) (fun _ _ si _ => L.length - (intOf si).toNat)
      case atStart => exact ⟨0, S0, 0, P0, 0, by omega, rfl, rfl, rfl, HS0, HP0, HN0⟩
      case round =>
        clear HS0 HP0 HN0
        obtain ⟨i, As, cs, Ap, cp, hi, rfl, rfl, rfl, HS, HP, HN⟩ := hrel
        obtain ⟨wo, gwo⟩ : ∃ z, wr = z := ⟨_, rfl⟩
        rw [gwo] at HS HP ⊢
        clear gwo
        have HBw : RowKit.Hid (Below wv.heap.size wv wo) := Lib.hid HS.out.below
        have HDo := Lib.hid (HD6.out.bl HBw.out)
        have HXo := Lib.hid (HX6.out.bl HBw.out)
        have HTo := Lib.hid (HTr.out.bl HBw.out)
        by_cases hin : i < L.length
        · obtain ⟨bd, of2, rfl, hbd, hc⟩ := HLr.out.darts (by omega)
          obtain ⟨q1, q2, q3⟩ := hc i hin
          obtain ⟨⟨y1_, y2_, y3_⟩, hy⟩ : ∃ y, L[i]? = some y := ⟨_, List.getElem?_eq_getElem hin⟩
          have hgd : L.getD i (0, 0, 0) = (y1_, y2_, y3_) := by rw [List.getD_eq_getElem?_getD, hy]; rfl
          rw [hgd] at q1 q2 q3
          have hyL := List.mem_of_getElem? hy
          have HCy : RowKit.Hid (∀ W, Below wv.heap.size wv W → W.cell? ⟨bd, of2 + i * 3, none⟩ = some (.int .i64 y1_) ∧ W.cell? ⟨bd, of2 + i * 3 + 1, none⟩ = some (.int .i64 y2_) ∧ W.cell? ⟨bd, of2 + i * 3 + 2, none⟩ = some (.int .i64 y3_)) := Lib.hid (fun W hb => ⟨(hb.cell (p := ⟨bd, of2 + i * 3, none⟩) hbd).trans q1, (hb.cell (p := ⟨bd, of2 + i * 3 + 1, none⟩) hbd).trans q2, (hb.cell (p := ⟨bd, of2 + i * 3 + 2, none⟩) hbd).trans q3⟩)
          have HSi := Lib.hid (HSg.out y1_ y2_ y3_ hyL)
          have HPi := Lib.hid (HPh.out y1_ y2_ y3_ hyL)
          obtain ⟨o1, o2, o3, hot1, hot2⟩ := HOt.out y1_ y2_ y3_ hyL
          have HO1 := Lib.hid hot1
          have HO2 := Lib.hid hot2
          have hsn := hSn.out i _ hy
          have hpn := hPn.out i _ hy
          have hsx := map_take_next (sgF Vs) L i _ hy
          have hpx := map_take_next (phF Vs) L i _ hy
          obtain ⟨⟨s1, s2, s3⟩, gs⟩ : ∃ z, sgF Vs (y1_, y2_, y3_) = z := ⟨_, rfl⟩
          obtain ⟨⟨p1, p2, p3⟩, gp⟩ : ∃ z, phF Vs (y1_, y2_, y3_) = z := ⟨_, rfl⟩
          rw [gs] at HSi hsn hsx
          rw [gp] at HPi HO2 hpn hpx
          have htm := HTm2.out _ hyL
          have hMl : ((L.take i).map (sgF Vs)).length = i := by rw [List.length_map, List.length_take]; omega
          have HI1 : RowKit.Hid (∀ W, RdS W W.heap.size 3 As i cs (dartsV ((L.take i).map (sgF Vs))) → Calls Try.prog 29 #[.slice As i cs, .agg #[.int .i64 s1, .int .i64 s2, .int .i64 s3]] W fun e w' => e = .returned (.int .i64 (-1)) ∧ Below W.heap.size W w') := Lib.hid (fun W h => by
            have h1 := rfindex_any As i cs _ (s1, s2, s3) W h (by omega)
            rw [idxD_no hsn] at h1
            exact h1)
          have HI2 : RowKit.Hid (∀ W, RdS W W.heap.size 3 Ap i cp (dartsV ((L.take i).map (phF Vs))) → Calls Try.prog 29 #[.slice Ap i cp, .agg #[.int .i64 p1, .int .i64 p2, .int .i64 p3]] W fun e w' => e = .returned (.int .i64 (-1)) ∧ Below W.heap.size W w') := Lib.hid (fun W h => by
            have h1 := rfindex_any Ap i cp _ (p1, p2, p3) W h (by omega)
            rw [idxD_no hpn] at h1
            exact h1)
          obtain ⟨it, git⟩ : ∃ z : Nat, T.idxOf (y1_, y2_, y3_) = z := ⟨_, rfl⟩
          have HI3 : RowKit.Hid (∀ W, RdS W W.heap.size 3 At L.length ct (dartsV T) → Calls Try.prog 29 #[.slice At L.length ct, .agg #[.int .i64 y1_, .int .i64 y2_, .int .i64 y3_]] W fun e w' => e = .returned (.int .i64 (it : Int)) ∧ Below W.heap.size W w') := Lib.hid (fun W h => by
            have h1 := rfindex_any At L.length ct T (y1_, y2_, y3_) W h (by omega)
            rw [(idxD_mem htm).1, git] at h1
            exact h1)
          have Hsx := Lib.hid hsx
          have Hpx := Lib.hid hpx
          have ht1 : decide ((0 : Int) ≤ (-1 : Int)) = false := by decide
          have ht3 : decide ((it : Int) < 0) = false := decide_eq_false (by omega)
          clear hot1 hot2 hsn hpn hsx hpx gs gp htm hMl git hy hgd hyL q1 q2 q3 hbd hc
          go_upto_region 17 with fail
          have HLd : RowKit.Hid (∀ W', Ext wo.drew W' → W'.cell? ⟨w.heap.size, 0, none⟩ = some (.slice A n c) ∧ W'.cell? ⟨w.heap.size, 1, none⟩ = some (.slice B m k) ∧ W'.cell? ⟨bd, of2 + i * 3, none⟩ = some (.int .i64 y1_) ∧ W'.cell? ⟨bd, of2 + i * 3 + 1, none⟩ = some (.int .i64 y2_) ∧ W'.cell? ⟨bd, of2 + i * 3 + 2, none⟩ = some (.int .i64 y3_)) :=
            Lib.hid (fun W' h => ⟨(HXo.out.dr.bl h).cell (i := 0) rfl, (HXo.out.dr.bl h).cell (i := 1) rfl, HCy.out _ (bel_bl (bel_dr HBw.out) h)⟩)
          refine wp_region_in3 10 8 (From_ wo.heap.size) (gamL [some (.agg #[.slice A n c, .slice B m k]), some (.slice (some ⟨bd, of2, none⟩) L.length cl), some (.int .i64 (i : Int)), some (.pointer (some ⟨bd, of2 + i * 3, none⟩)), some (.agg #[.int .i64 y1_, .int .i64 y2_, .int .i64 y3_]), some (.tuple #[.agg #[.int .i64 s1, .int .i64 s2, .int .i64 s3], .bool true]), some (.tuple #[.agg #[.int .i64 s1, .int .i64 s2, .int .i64 s3], .bool true]), some (.agg #[.int .i64 s1, .int .i64 s2, .int .i64 s3]), some (.bool true), none] 9 wo.heap.size 29 [.int .i64 0, .int .i64 0, .int .i64 0]) (Ext wo.drew) (by kernel_rfl) (by kernel_rfl) (by kernel_rfl) (by kernel_rfl) (by kernel_rfl) (by kernel_rfl) (by simp only [List.getElem?_toArray, List.getElem?_cons_succ, List.getElem?_cons_zero]; exact rfl) (by kernel_rfl) (by kernel_rfl) (by kernel_rfl) ?_ (fun i v w1 w2 h hx => gamL_up i v w1 w2 h hx) (fun _ _ h k => h.trans k) (Ext.refl _) ?_ ?_ ?_
          · exact fun _ _ _ _ h => h
          · intro i hi9
            have hcase : i = 0 ∨ i = 1 ∨ i = 2 ∨ i = 3 ∨ i = 4 ∨ i = 5 ∨ i = 6 ∨ i = 7 ∨ i = 8 ∨ i = 9 := by omega
            rcases hcase with rfl | rfl | rfl | rfl | rfl | rfl | rfl | rfl | rfl | rfl
            · intro o ho x y hg hdep
              simp only [List.getElem?_toArray, List.getElem?_cons_succ, List.getElem?_cons_zero, Option.some.injEq] at ho
              subst ho
              obtain ⟨hl0, hl1, hl2, hl3, hl4⟩ := HLd.out _ hg
              simp only [dsts, List.map_cons, List.map_nil, putAll, Act.put, List.setIfInBounds_toArray, List.set_cons_zero, List.set_cons_succ]
              refine .inl ⟨by rfl, ?_⟩
              go_simp
              exact ⟨Ext.refl _, rfl⟩
            · intro o ho x y hg hdep
              simp only [List.getElem?_toArray, List.getElem?_cons_succ, List.getElem?_cons_zero, Option.some.injEq] at ho
              subst ho
              simp only [dsts, List.map_cons, List.map_nil, putAll, Act.put, List.setIfInBounds_toArray, List.set_cons_zero, List.set_cons_succ]
              refine .inl ⟨by rfl, ?_⟩
              go_simp
              exact ⟨Ext.refl _, rfl⟩
            · intro o ho x y hg hdep
              simp only [List.getElem?_toArray, List.getElem?_cons_succ, List.getElem?_cons_zero, Option.some.injEq] at ho
              subst ho
              simp only [dsts, List.map_cons, List.map_nil, putAll, Act.put, List.setIfInBounds_toArray, List.set_cons_zero, List.set_cons_succ]
              refine .inl ⟨by rfl, ?_⟩
              go_simp
              exact ⟨Ext.refl _, rfl⟩
            · intro o ho x y hg hdep
              simp only [List.getElem?_toArray, List.getElem?_cons_succ, List.getElem?_cons_zero, Option.some.injEq] at ho
              subst ho
              have d1 : x 1 = .slice (some ⟨bd, of2, none⟩) L.length cl := hdep 1 (by decide)
              have d2 : x 2 = .int .i64 (i : Int) := hdep 2 (by decide)
              simp only [dsts, List.map_cons, List.map_nil, putAll, Act.put, List.setIfInBounds_toArray, List.set_cons_zero, List.set_cons_succ]
              simp only [d1, d2]
              refine .inl ⟨by rfl, ?_⟩
              go_simp
              exact ⟨Ext.refl _, rfl⟩
            · intro o ho x y hg hdep
              simp only [List.getElem?_toArray, List.getElem?_cons_succ, List.getElem?_cons_zero, Option.some.injEq] at ho
              subst ho
              have d3 : x 3 = .pointer (some ⟨bd, of2 + i * 3, none⟩) := hdep 3 (by decide)
              obtain ⟨hl0, hl1, hl2, hl3, hl4⟩ := HLd.out _ hg
              simp only [dsts, List.map_cons, List.map_nil, putAll, Act.put, List.setIfInBounds_toArray, List.set_cons_zero, List.set_cons_succ]
              simp only [d3]
              refine .inl ⟨by rfl, ?_⟩
              go_simp
              exact ⟨Ext.refl _, rfl⟩
            · intro o ho x y hg hdep
              simp only [List.getElem?_toArray, List.getElem?_cons_succ, List.getElem?_cons_zero, Option.some.injEq] at ho
              subst ho
              have d0 : x 0 = .agg #[.slice A n c, .slice B m k] := hdep 0 (by decide)
              have d4 : x 4 = .agg #[.int .i64 y1_, .int .i64 y2_, .int .i64 y3_] := hdep 4 (by decide)
              simp only [dsts, List.map_cons, List.map_nil, putAll, Act.put, List.setIfInBounds_toArray, List.set_cons_zero, List.set_cons_succ]
              simp only [d0, d4]
              refine .inl ⟨by rfl, outT_call (by go_simp; first | done | exact ⟨rfl, rfl⟩ | with_reducible rfl) ?_⟩
              refine (HSi.out y (HDo.out.dr.bl hg)).mono ?_
              rintro e w2 ⟨rfl, hb⟩
              exact ⟨_, rfl, hb, rfl⟩
            · intro o ho x y hg hdep
              simp only [List.getElem?_toArray, List.getElem?_cons_succ, List.getElem?_cons_zero, Option.some.injEq] at ho
              subst ho
              have d5 : x 5 = .tuple #[.agg #[.int .i64 s1, .int .i64 s2, .int .i64 s3], .bool true] := hdep 5 (by decide)
              simp only [dsts, List.map_cons, List.map_nil, putAll, Act.put, List.setIfInBounds_toArray, List.set_cons_zero, List.set_cons_succ]
              simp only [d5]
              refine .inl ⟨by rfl, ?_⟩
              go_simp
              exact ⟨Ext.refl _, rfl⟩
            · intro o ho x y hg hdep
              simp only [List.getElem?_toArray, List.getElem?_cons_succ, List.getElem?_cons_zero, Option.some.injEq] at ho
              subst ho
              have d6 : x 6 = .tuple #[.agg #[.int .i64 s1, .int .i64 s2, .int .i64 s3], .bool true] := hdep 6 (by decide)
              simp only [dsts, List.map_cons, List.map_nil, putAll, Act.put, List.setIfInBounds_toArray, List.set_cons_zero, List.set_cons_succ]
              simp only [d6]
              refine .inl ⟨by rfl, ?_⟩
              go_simp
              exact ⟨Ext.refl _, rfl⟩
            · intro o ho x y hg hdep
              simp only [List.getElem?_toArray, List.getElem?_cons_succ, List.getElem?_cons_zero, Option.some.injEq] at ho
              subst ho
              have d6 : x 6 = .tuple #[.agg #[.int .i64 s1, .int .i64 s2, .int .i64 s3], .bool true] := hdep 6 (by decide)
              simp only [dsts, List.map_cons, List.map_nil, putAll, Act.put, List.setIfInBounds_toArray, List.set_cons_zero, List.set_cons_succ]
              simp only [d6]
              refine .inl ⟨by rfl, ?_⟩
              go_simp
              exact ⟨Ext.refl _, rfl⟩
            · intro o ho x y hg hdep
              simp only [List.getElem?_toArray, List.getElem?_cons_succ, List.getElem?_cons_zero, Option.some.injEq] at ho
              subst ho
              simp only [dsts, List.map_cons, List.map_nil, putAll, Act.put, List.setIfInBounds_toArray, List.set_cons_zero, List.set_cons_succ]
              refine .inl ⟨by rfl, outT_run (w' := y.alloc (.cells #[.int .i64 0, .int .i64 0, .int .i64 0] 29)) (by go_simp; first | done | exact rfl | exact ⟨rfl, rfl⟩) (below1 _ _) ?_⟩
              exact ⟨y.heap.size, rfl, hg.size, Whole.new_ _ _ [.int .i64 0, .int .i64 0, .int .i64 0]⟩
          · intro x y hg hall
            have d6 : x 6 = .tuple #[.agg #[.int .i64 s1, .int .i64 s2, .int .i64 s3], .bool true] := hall 6 (by decide) (by decide)
            simp only [dsts, List.map_cons, List.map_nil, putAll, Act.put, List.setIfInBounds_toArray, List.set_cons_zero, List.set_cons_succ]
            simp only [d6]
            refine ⟨.bool true, ?_, rfl⟩
            apply yr_run; rfl; intro w' hw'; go_simp; (try with_reducible rfl)
          intro x y hg hall
          have d7 : x 7 = .agg #[.int .i64 s1, .int .i64 s2, .int .i64 s3] := hall 7 (by decide)
          have d8 : x 8 = .bool true := hall 8 (by decide)
          obtain ⟨gA, d9, hlr, hwr⟩ : ∃ g, x 9 = .pointer (some ⟨g, 0, none⟩) ∧ wo.heap.size ≤ g ∧ Whole y g 29 [.int .i64 0, .int .i64 0, .int .i64 0] := hall 9 (by decide)
          simp only [dsts, List.map_cons, List.map_nil, putAll, Act.put, List.setIfInBounds_toArray, List.set_cons_zero, List.set_cons_succ]
          simp only [d7, d8, d9]
          have HWy := Lib.hid hwr
          have HBy := Lib.hid (bel_bl (bel_dr (Below.refl _ wo)) hg)
          have HLoA : RowKit.Hid (wo.heap.size ≤ gA) := Lib.hid hlr
          have HW0 : RowKit.Hid (wo.heap.size ≤ wo.heap.size) := Lib.hid (by omega)
          clear hg hall d7 d8 d9 hlr hwr
          apply wpR_store 10
          · simp only [List.getElem?_toArray, List.getElem?_cons_succ, List.getElem?_cons_zero]; exact rfl
          · rfl
          · kernel_rfl
          · rfl
          intro w' hw'
          refine ⟨w'.setRow gA #[.int .i64 s1, .int .i64 s2, .int .i64 s3], store_row_run 29 (.tmp 16) (.tmp 60) rfl gA rfl [.int .i64 s1, .int .i64 s2, .int .i64 s3] rfl 29 [.int .i64 0, .int .i64 0, .int .i64 0] (HWy.out.bl hw') (by kernel_rfl) rfl (by simp [Value.oneCell']), kept_row (show wo.heap.size ≤ gA by have := HLoA.out; have := HW0.out; omega) _, ?_⟩
          have HWz : RowKit.Hid (Whole (w'.setRow gA #[.int .i64 s1, .int .i64 s2, .int .i64 s3]) gA 29 [.int .i64 s1, .int .i64 s2, .int .i64 s3]) := Lib.hid (Whole.row (HWy.out.bl hw') [.int .i64 s1, .int .i64 s2, .int .i64 s3])
          have HBz : RowKit.Hid (Below wo.heap.size wo (w'.setRow gA #[.int .i64 s1, .int .i64 s2, .int .i64 s3])) := Lib.hid (below_row (bel_bl HBy.out hw') HLoA.out _)
          obtain ⟨V1A, gV1A⟩ : ∃ z, w'.setRow gA #[.int .i64 s1, .int .i64 s2, .int .i64 s3] = z := ⟨_, rfl⟩
          rw [gV1A] at HWz HBz ⊢
          clear hw' gV1A HWy HBy
          apply wpR_next 11 (some 17)
          · simp only [List.getElem?_toArray, List.getElem?_cons_succ, List.getElem?_cons_zero]; exact rfl
          · rfl
          · kernel_rfl
          · kernel_rfl
          · kernel_rfl
          · exact fun _ _ _ _ h => h
          apply Exists.intro
          apply And.intro
          · apply yr_run; rfl; intro w' hw'; go_simp; (try with_reducible rfl)
          simp only [Act.put, List.setIfInBounds_toArray, List.set_cons_zero, List.set_cons_succ]
          refine wpR_done (by kernel_rfl) ?_ _
          intro WA hw8
          have HWrA := Lib.hid (HWz.out.bl hw8)
          have HBrA := Lib.hid (bel_bl HBz.out hw8)
          clear hw8 HWz HBz HW0
          have HBlA : RowKit.Hid (Below wo.heap.size wo WA) := Lib.hid HBrA.out
          have Da_1102 := Lib.hid (HDo.out.bl HBlA.out)
          have D0_1102 := Lib.hid (HXo.out.bl HBlA.out)
          have T_1102 := Lib.hid (HTo.out.bl HBlA.out)
          have S_1102 := Lib.hid (HS.out.bl HBlA.out)
          have P_1102 := Lib.hid (HP.out.bl HBlA.out)
          have Bel_1102 := Lib.hid (bel_bl HBw.out HBlA.out)
          clear HDo HXo HTo HS HP HBw
          clear HLd HBrA
          skip
          go_upto_region 18 with fail
          have NA0 : RowKit.Hid (∀ g, WA.heap.size ≤ g → some g ≠ (Value.slice As i cs).ownBlock) := Lib.hid (fun g h => S_1102.out.ne_ h)
          have NB0 : RowKit.Hid (∀ g, WA.heap.size ≤ g → some g ≠ (Value.slice Ap i cp).ownBlock) := Lib.hid (fun g h => P_1102.out.ne_ h)
          have HLd : RowKit.Hid (∀ W', Ext WA.drew W' → W'.cell? ⟨w.heap.size, 0, none⟩ = some (.slice A n c) ∧ W'.cell? ⟨w.heap.size, 1, none⟩ = some (.slice B m k) ∧ W'.cell? ⟨bd, of2 + i * 3, none⟩ = some (.int .i64 y1_) ∧ W'.cell? ⟨bd, of2 + i * 3 + 1, none⟩ = some (.int .i64 y2_) ∧ W'.cell? ⟨bd, of2 + i * 3 + 2, none⟩ = some (.int .i64 y3_)) :=
            Lib.hid (fun W' h => ⟨(D0_1102.out.dr.bl h).cell (i := 0) rfl, (D0_1102.out.dr.bl h).cell (i := 1) rfl, HCy.out _ (bel_bl (bel_dr Bel_1102.out) h)⟩)
          refine wp_region_in3 10 8 (From_ WA.heap.size) (gamL [some (.agg #[.slice A n c, .slice B m k]), some (.slice (some ⟨bd, of2, none⟩) L.length cl), some (.int .i64 (i : Int)), some (.pointer (some ⟨bd, of2 + i * 3, none⟩)), some (.agg #[.int .i64 y1_, .int .i64 y2_, .int .i64 y3_]), some (.tuple #[.agg #[.int .i64 p1, .int .i64 p2, .int .i64 p3], .bool true]), some (.tuple #[.agg #[.int .i64 p1, .int .i64 p2, .int .i64 p3], .bool true]), some (.agg #[.int .i64 p1, .int .i64 p2, .int .i64 p3]), some (.bool true), none] 9 WA.heap.size 29 [.int .i64 0, .int .i64 0, .int .i64 0]) (Ext WA.drew) (by kernel_rfl) (by kernel_rfl) (by kernel_rfl) (by kernel_rfl) (by kernel_rfl) (by kernel_rfl) (by simp only [List.getElem?_toArray, List.getElem?_cons_succ, List.getElem?_cons_zero]; exact rfl) (by kernel_rfl) (by kernel_rfl) (by kernel_rfl) ?_ (fun i v w1 w2 h hx => gamL_up i v w1 w2 h hx) (fun _ _ h k => h.trans k) (Ext.refl _) ?_ ?_ ?_
          · exact fun _ _ _ _ h => h
          · intro i hi9
            have hcase : i = 0 ∨ i = 1 ∨ i = 2 ∨ i = 3 ∨ i = 4 ∨ i = 5 ∨ i = 6 ∨ i = 7 ∨ i = 8 ∨ i = 9 := by omega
            rcases hcase with rfl | rfl | rfl | rfl | rfl | rfl | rfl | rfl | rfl | rfl
            · intro o ho x y hg hdep
              simp only [List.getElem?_toArray, List.getElem?_cons_succ, List.getElem?_cons_zero, Option.some.injEq] at ho
              subst ho
              obtain ⟨hl0, hl1, hl2, hl3, hl4⟩ := HLd.out _ hg
              simp only [dsts, List.map_cons, List.map_nil, putAll, Act.put, List.setIfInBounds_toArray, List.set_cons_zero, List.set_cons_succ]
              refine .inl ⟨by rfl, ?_⟩
              go_simp
              exact ⟨Ext.refl _, rfl⟩
            · intro o ho x y hg hdep
              simp only [List.getElem?_toArray, List.getElem?_cons_succ, List.getElem?_cons_zero, Option.some.injEq] at ho
              subst ho
              simp only [dsts, List.map_cons, List.map_nil, putAll, Act.put, List.setIfInBounds_toArray, List.set_cons_zero, List.set_cons_succ]
              refine .inl ⟨by rfl, ?_⟩
              go_simp
              exact ⟨Ext.refl _, rfl⟩
            · intro o ho x y hg hdep
              simp only [List.getElem?_toArray, List.getElem?_cons_succ, List.getElem?_cons_zero, Option.some.injEq] at ho
              subst ho
              simp only [dsts, List.map_cons, List.map_nil, putAll, Act.put, List.setIfInBounds_toArray, List.set_cons_zero, List.set_cons_succ]
              refine .inl ⟨by rfl, ?_⟩
              go_simp
              exact ⟨Ext.refl _, rfl⟩
            · intro o ho x y hg hdep
              simp only [List.getElem?_toArray, List.getElem?_cons_succ, List.getElem?_cons_zero, Option.some.injEq] at ho
              subst ho
              have d1 : x 1 = .slice (some ⟨bd, of2, none⟩) L.length cl := hdep 1 (by decide)
              have d2 : x 2 = .int .i64 (i : Int) := hdep 2 (by decide)
              simp only [dsts, List.map_cons, List.map_nil, putAll, Act.put, List.setIfInBounds_toArray, List.set_cons_zero, List.set_cons_succ]
              simp only [d1, d2]
              refine .inl ⟨by rfl, ?_⟩
              go_simp
              exact ⟨Ext.refl _, rfl⟩
            · intro o ho x y hg hdep
              simp only [List.getElem?_toArray, List.getElem?_cons_succ, List.getElem?_cons_zero, Option.some.injEq] at ho
              subst ho
              have d3 : x 3 = .pointer (some ⟨bd, of2 + i * 3, none⟩) := hdep 3 (by decide)
              obtain ⟨hl0, hl1, hl2, hl3, hl4⟩ := HLd.out _ hg
              simp only [dsts, List.map_cons, List.map_nil, putAll, Act.put, List.setIfInBounds_toArray, List.set_cons_zero, List.set_cons_succ]
              simp only [d3]
              refine .inl ⟨by rfl, ?_⟩
              go_simp
              exact ⟨Ext.refl _, rfl⟩
            · intro o ho x y hg hdep
              simp only [List.getElem?_toArray, List.getElem?_cons_succ, List.getElem?_cons_zero, Option.some.injEq] at ho
              subst ho
              have d0 : x 0 = .agg #[.slice A n c, .slice B m k] := hdep 0 (by decide)
              have d4 : x 4 = .agg #[.int .i64 y1_, .int .i64 y2_, .int .i64 y3_] := hdep 4 (by decide)
              simp only [dsts, List.map_cons, List.map_nil, putAll, Act.put, List.setIfInBounds_toArray, List.set_cons_zero, List.set_cons_succ]
              simp only [d0, d4]
              refine .inl ⟨by rfl, outT_call (by go_simp; first | done | exact ⟨rfl, rfl⟩ | with_reducible rfl) ?_⟩
              refine (HPi.out y (Da_1102.out.dr.bl hg)).mono ?_
              rintro e w2 ⟨rfl, hb⟩
              exact ⟨_, rfl, hb, rfl⟩
            · intro o ho x y hg hdep
              simp only [List.getElem?_toArray, List.getElem?_cons_succ, List.getElem?_cons_zero, Option.some.injEq] at ho
              subst ho
              have d5 : x 5 = .tuple #[.agg #[.int .i64 p1, .int .i64 p2, .int .i64 p3], .bool true] := hdep 5 (by decide)
              simp only [dsts, List.map_cons, List.map_nil, putAll, Act.put, List.setIfInBounds_toArray, List.set_cons_zero, List.set_cons_succ]
              simp only [d5]
              refine .inl ⟨by rfl, ?_⟩
              go_simp
              exact ⟨Ext.refl _, rfl⟩
            · intro o ho x y hg hdep
              simp only [List.getElem?_toArray, List.getElem?_cons_succ, List.getElem?_cons_zero, Option.some.injEq] at ho
              subst ho
              have d6 : x 6 = .tuple #[.agg #[.int .i64 p1, .int .i64 p2, .int .i64 p3], .bool true] := hdep 6 (by decide)
              simp only [dsts, List.map_cons, List.map_nil, putAll, Act.put, List.setIfInBounds_toArray, List.set_cons_zero, List.set_cons_succ]
              simp only [d6]
              refine .inl ⟨by rfl, ?_⟩
              go_simp
              exact ⟨Ext.refl _, rfl⟩
            · intro o ho x y hg hdep
              simp only [List.getElem?_toArray, List.getElem?_cons_succ, List.getElem?_cons_zero, Option.some.injEq] at ho
              subst ho
              have d6 : x 6 = .tuple #[.agg #[.int .i64 p1, .int .i64 p2, .int .i64 p3], .bool true] := hdep 6 (by decide)
              simp only [dsts, List.map_cons, List.map_nil, putAll, Act.put, List.setIfInBounds_toArray, List.set_cons_zero, List.set_cons_succ]
              simp only [d6]
              refine .inl ⟨by rfl, ?_⟩
              go_simp
              exact ⟨Ext.refl _, rfl⟩
            · intro o ho x y hg hdep
              simp only [List.getElem?_toArray, List.getElem?_cons_succ, List.getElem?_cons_zero, Option.some.injEq] at ho
              subst ho
              simp only [dsts, List.map_cons, List.map_nil, putAll, Act.put, List.setIfInBounds_toArray, List.set_cons_zero, List.set_cons_succ]
              refine .inl ⟨by rfl, outT_run (w' := y.alloc (.cells #[.int .i64 0, .int .i64 0, .int .i64 0] 29)) (by go_simp; first | done | exact rfl | exact ⟨rfl, rfl⟩) (below1 _ _) ?_⟩
              exact ⟨y.heap.size, rfl, hg.size, Whole.new_ _ _ [.int .i64 0, .int .i64 0, .int .i64 0]⟩
          · intro x y hg hall
            have d6 : x 6 = .tuple #[.agg #[.int .i64 p1, .int .i64 p2, .int .i64 p3], .bool true] := hall 6 (by decide) (by decide)
            simp only [dsts, List.map_cons, List.map_nil, putAll, Act.put, List.setIfInBounds_toArray, List.set_cons_zero, List.set_cons_succ]
            simp only [d6]
            refine ⟨.bool true, ?_, rfl⟩
            apply yr_run; rfl; intro w' hw'; go_simp; (try with_reducible rfl)
          intro x y hg hall
          have d7 : x 7 = .agg #[.int .i64 p1, .int .i64 p2, .int .i64 p3] := hall 7 (by decide)
          have d8 : x 8 = .bool true := hall 8 (by decide)
          obtain ⟨gB, d9, hlr, hwr⟩ : ∃ g, x 9 = .pointer (some ⟨g, 0, none⟩) ∧ WA.heap.size ≤ g ∧ Whole y g 29 [.int .i64 0, .int .i64 0, .int .i64 0] := hall 9 (by decide)
          simp only [dsts, List.map_cons, List.map_nil, putAll, Act.put, List.setIfInBounds_toArray, List.set_cons_zero, List.set_cons_succ]
          simp only [d7, d8, d9]
          have HWy := Lib.hid hwr
          have HBy := Lib.hid (bel_bl (bel_dr (Below.refl _ WA)) hg)
          have HLoB : RowKit.Hid (WA.heap.size ≤ gB) := Lib.hid hlr
          have HW0 : RowKit.Hid (WA.heap.size ≤ WA.heap.size) := Lib.hid (by omega)
          clear hg hall d7 d8 d9 hlr hwr
          apply wpR_store 10
          · simp only [List.getElem?_toArray, List.getElem?_cons_succ, List.getElem?_cons_zero]; exact rfl
          · rfl
          · kernel_rfl
          · rfl
          intro w' hw'
          refine ⟨w'.setRow gB #[.int .i64 p1, .int .i64 p2, .int .i64 p3], store_row_run 29 (.tmp 18) (.tmp 69) rfl gB rfl [.int .i64 p1, .int .i64 p2, .int .i64 p3] rfl 29 [.int .i64 0, .int .i64 0, .int .i64 0] (HWy.out.bl hw') (by kernel_rfl) rfl (by simp [Value.oneCell']), kept_row (show WA.heap.size ≤ gB by have := HLoB.out; have := HW0.out; omega) _, ?_⟩
          have HWz : RowKit.Hid (Whole (w'.setRow gB #[.int .i64 p1, .int .i64 p2, .int .i64 p3]) gB 29 [.int .i64 p1, .int .i64 p2, .int .i64 p3]) := Lib.hid (Whole.row (HWy.out.bl hw') [.int .i64 p1, .int .i64 p2, .int .i64 p3])
          have HBz : RowKit.Hid (Below WA.heap.size WA (w'.setRow gB #[.int .i64 p1, .int .i64 p2, .int .i64 p3])) := Lib.hid (below_row (bel_bl HBy.out hw') HLoB.out _)
          obtain ⟨V1B, gV1B⟩ : ∃ z, w'.setRow gB #[.int .i64 p1, .int .i64 p2, .int .i64 p3] = z := ⟨_, rfl⟩
          rw [gV1B] at HWz HBz ⊢
          clear hw' gV1B HWy HBy
          apply wpR_next 11 (some 19)
          · simp only [List.getElem?_toArray, List.getElem?_cons_succ, List.getElem?_cons_zero]; exact rfl
          · rfl
          · kernel_rfl
          · kernel_rfl
          · kernel_rfl
          · exact fun _ _ _ _ h => h
          apply Exists.intro
          apply And.intro
          · apply yr_run; rfl; intro w' hw'; go_simp; (try with_reducible rfl)
          simp only [Act.put, List.setIfInBounds_toArray, List.set_cons_zero, List.set_cons_succ]
          refine wpR_done (by kernel_rfl) ?_ _
          intro WB hw8
          have HWrB := Lib.hid (HWz.out.bl hw8)
          have HBrB := Lib.hid (bel_bl HBz.out hw8)
          clear hw8 HWz HBz HW0
          have HBlB : RowKit.Hid (Below WA.heap.size WA WB) := Lib.hid HBrB.out
          have Da_1104 := Lib.hid (Da_1102.out.bl HBlB.out)
          have D0_1104 := Lib.hid (D0_1102.out.bl HBlB.out)
          have T_1104 := Lib.hid (T_1102.out.bl HBlB.out)
          have S_1104 := Lib.hid (S_1102.out.bl HBlB.out)
          have P_1104 := Lib.hid (P_1102.out.bl HBlB.out)
          have Ga_1104 := Lib.hid (HWrA.out.bl HBlB.out)
          have Bel_1104 := Lib.hid (bel_bl Bel_1102.out HBlB.out)
          clear Da_1102 D0_1102 T_1102 S_1102 P_1102 HWrA Bel_1102
          clear HLd HBrB
          have lw1105 : (WB).cell? ⟨gA, 0, none⟩ = some (.int .i64 s1) := Ga_1104.out.cell (i := 0) rfl
          have lw1106 : (WB).cell? ⟨gA, 1, none⟩ = some (.int .i64 s2) := Ga_1104.out.cell (i := 1) rfl
          have lw1107 : (WB).cell? ⟨gA, 2, none⟩ = some (.int .i64 s3) := Ga_1104.out.cell (i := 2) rfl
          go_wp2_with fail
          clear lw1105 lw1106 lw1107
          refine (HI1.out _ (own_rds S_1104.out.own)).mono ?_
          rintro e w1108 ⟨rfl, hb1108⟩
          have Da_1109 := Lib.hid (Da_1104.out.bl hb1108)
          have D0_1109 := Lib.hid (D0_1104.out.bl hb1108)
          have T_1109 := Lib.hid (T_1104.out.bl hb1108)
          have S_1109 := Lib.hid (S_1104.out.bl hb1108)
          have P_1109 := Lib.hid (P_1104.out.bl hb1108)
          have Ga_1109 := Lib.hid (Ga_1104.out.bl hb1108)
          have Gb_1109 := Lib.hid (HWrB.out.bl hb1108)
          have Bel_1109 := Lib.hid (bel_bl Bel_1104.out hb1108)
          clear Da_1104 D0_1104 T_1104 S_1104 P_1104 Ga_1104 HWrB Bel_1104
          clear hb1108
          have lw1110 : (w1108).cell? ⟨gB, 0, none⟩ = some (.int .i64 p1) := Gb_1109.out.cell (i := 0) rfl
          have lw1111 : (w1108).cell? ⟨gB, 1, none⟩ = some (.int .i64 p2) := Gb_1109.out.cell (i := 1) rfl
          have lw1112 : (w1108).cell? ⟨gB, 2, none⟩ = some (.int .i64 p3) := Gb_1109.out.cell (i := 2) rfl
          go_wp2_with fail
          clear lw1110 lw1111 lw1112
          refine (HI2.out _ (own_rds P_1109.out.own)).mono ?_
          rintro e w1113 ⟨rfl, hb1113⟩
          have Da_1114 := Lib.hid (Da_1109.out.bl hb1113)
          have D0_1114 := Lib.hid (D0_1109.out.bl hb1113)
          have T_1114 := Lib.hid (T_1109.out.bl hb1113)
          have S_1114 := Lib.hid (S_1109.out.bl hb1113)
          have P_1114 := Lib.hid (P_1109.out.bl hb1113)
          have Ga_1114 := Lib.hid (Ga_1109.out.bl hb1113)
          have Gb_1114 := Lib.hid (Gb_1109.out.bl hb1113)
          have Bel_1114 := Lib.hid (bel_bl Bel_1109.out hb1113)
          clear Da_1109 D0_1109 T_1109 S_1109 P_1109 Ga_1109 Gb_1109 Bel_1109
          clear hb1113
          have lw1115 : (w1113).cell? ⟨bd, of2 + i * 3, none⟩ = some (.int .i64 y1_) := (HCy.out _ Bel_1114.out).1
          have lw1116 : (w1113).cell? ⟨bd, of2 + i * 3 + 1, none⟩ = some (.int .i64 y2_) := (HCy.out _ Bel_1114.out).2.1
          have lw1117 : (w1113).cell? ⟨bd, of2 + i * 3 + 2, none⟩ = some (.int .i64 y3_) := (HCy.out _ Bel_1114.out).2.2
          go_wp2_with fail
          clear lw1115 lw1116 lw1117
          refine (HI3.out _ T_1114.out).mono ?_
          rintro e w1118 ⟨rfl, hb1118⟩
          have Da_1119 := Lib.hid (Da_1114.out.bl hb1118)
          have D0_1119 := Lib.hid (D0_1114.out.bl hb1118)
          have T_1119 := Lib.hid (T_1114.out.bl hb1118)
          have S_1119 := Lib.hid (S_1114.out.bl hb1118)
          have P_1119 := Lib.hid (P_1114.out.bl hb1118)
          have Ga_1119 := Lib.hid (Ga_1114.out.bl hb1118)
          have Gb_1119 := Lib.hid (Gb_1114.out.bl hb1118)
          have Bel_1119 := Lib.hid (bel_bl Bel_1114.out hb1118)
          clear Da_1114 D0_1114 T_1114 S_1114 P_1114 Ga_1114 Gb_1114 Bel_1114
          clear hb1118
          clear T_1119
          have NA : RowKit.Hid (some gB ≠ (Value.slice As i cs).ownBlock) := Lib.hid (NA0.out gB HLoB.out)
          obtain ⟨v7, w7, hrun, how7, hb7, hg7, ho7⟩ := Ow.app2 (P := Try.prog) 35 35 29 i0 _ 3 24 wv.heap.size Try.underlying35 hi0 hz0 hz1 hz2 rfl (by decide) _ i _ (S_1119.out.up (below1 _ _)) _ (some ⟨w1118.heap.size, 0, none⟩) 1 1 (dartsV [(s1, s2, s3)]) (RdS.whole3 (L := [(s1, s2, s3)]) (Whole.new_ w1118 29 [.int .i64 s1, .int .i64 s2, .int .i64 s3])) (dartsV_one _) (by unfold maxLen; omega) (by omega)
          obtain ⟨A7, c7, rfl, -⟩ := how7.rds
          have HP7 := Lib.hid ((P_1119.out.up (below1 w1118 (.cells #[.int .i64 s1, .int .i64 s2, .int .i64 s3] 29))).beside hg7 (fun e => HN.out e.symm) (fun k e => (S_1119.out.own.lt k e).1))
          have HN7 : RowKit.Hid ((Value.slice Ap i cp).ownBlock ≠ (Value.slice A7 (i + 1) c7).ownBlock) := Lib.hid (Ow.ne3 (P_1119.out.up (below1 w1118 (.cells #[.int .i64 s1, .int .i64 s2, .int .i64 s3] 29))) (fun e => HN.out e.symm) ho7)
          have HG7 := Lib.hid ((Gb_1119.out.al (.cells #[.int .i64 s1, .int .i64 s2, .int .i64 s3] 29)).grown hg7 NA.out)
          have HS7 : RowKit.Hid (Ow wv wv.heap.size 29 3 (.slice A7 (i + 1) c7) (i + 1) (dartsV ((L.take (i + 1)).map (sgF Vs))) w7) := Lib.hid (by rw [Hsx.out, dartsV_app]; exact how7)
          have Hrun7 := Lib.hid hrun
          have lg0 := Ga_1119.out.cell (i := 0) rfl
          have lg1 := Ga_1119.out.cell (i := 1) rfl
          have lg2 := Ga_1119.out.cell (i := 2) rfl
          clear hrun how7 hb7 hg7 ho7 NA
          go_upto_region 22 with (first
            | (at_builtin
               refine wpList_app rfl (.tmp 98) (.tmp 100) _ rfl rfl rfl Hrun7.out ?_
               clear Hrun7 lg0 lg1 lg2))
          obtain ⟨v8, w8, hrun, how8, hb8, hg8, ho8⟩ := Ow.app2 (P := Try.prog) 35 35 29 i0 _ 3 24 wv.heap.size Try.underlying35 hi0 hz0 hz1 hz2 rfl (by decide) _ i _ (HP7.out.up (below1 _ _)) _ (some ⟨w7.heap.size, 0, none⟩) 1 1 (dartsV [(p1, p2, p3)]) (RdS.whole3 (L := [(p1, p2, p3)]) (Whole.new_ w7 29 [.int .i64 p1, .int .i64 p2, .int .i64 p3])) (dartsV_one _) (by unfold maxLen; omega) (by omega)
          obtain ⟨A8, c8, rfl, -⟩ := how8.rds
          have NB : RowKit.Hid (some gB ≠ (Value.slice Ap i cp).ownBlock) := Lib.hid (NB0.out gB HLoB.out)
          have HS8 := Lib.hid ((HS7.out.up (below1 w7 (.cells #[.int .i64 p1, .int .i64 p2, .int .i64 p3] 29))).beside hg8 (fun e => HN7.out e.symm) (fun k e => (HP7.out.own.lt k e).1))
          have HN8 : RowKit.Hid ((Value.slice A7 (i + 1) c7).ownBlock ≠ (Value.slice A8 (i + 1) c8).ownBlock) := Lib.hid (Ow.ne3 (HS7.out.up (below1 w7 (.cells #[.int .i64 p1, .int .i64 p2, .int .i64 p3] 29))) (fun e => HN7.out e.symm) ho8)
          have HG8 := Lib.hid ((HG7.out.al (.cells #[.int .i64 p1, .int .i64 p2, .int .i64 p3] 29)).grown hg8 NB.out)
          have HP8 : RowKit.Hid (Ow wv wv.heap.size 29 3 (.slice A8 (i + 1) c8) (i + 1) (dartsV ((L.take (i + 1)).map (phF Vs))) w8) := Lib.hid (by rw [Hpx.out, dartsV_app]; exact how8)
          have Hrun8 := Lib.hid hrun
          have lg0 := HG7.out.cell (i := 0) rfl
          have lg1 := HG7.out.cell (i := 1) rfl
          have lg2 := HG7.out.cell (i := 2) rfl
          clear hrun how8 hb8 hg8 ho8 NB
          go_upto_region 23 with (first
            | (at_builtin
               refine wpList_app rfl (.tmp 102) (.tmp 104) _ rfl rfl rfl Hrun8.out ?_
               clear Hrun8 lg0 lg1 lg2))
          have HB8 : RowKit.Hid (Below wv.heap.size wv w8) := Lib.hid HS8.out.below
          have HD8 := Lib.hid (HD6.out.bl HB8.out)
          have HX8 := Lib.hid (HX6.out.bl HB8.out)
          clear HP7 HN7 HG7 HS7 HN Da_1119 D0_1119 S_1119 P_1119 Ga_1119 Gb_1119 Bel_1119 HLoA HLoB HSi HPi HI1 HI2 HI3
          have HLd : RowKit.Hid (∀ W', Ext w8.drew W' → W'.cell? ⟨w.heap.size, 0, none⟩ = some (.slice A n c) ∧ W'.cell? ⟨w.heap.size, 1, none⟩ = some (.slice B m k) ∧ W'.cell? ⟨bd, of2 + i * 3, none⟩ = some (.int .i64 y1_) ∧ W'.cell? ⟨bd, of2 + i * 3 + 1, none⟩ = some (.int .i64 y2_) ∧ W'.cell? ⟨bd, of2 + i * 3 + 2, none⟩ = some (.int .i64 y3_)) :=
            Lib.hid (fun W' h => ⟨(HX8.out.dr.bl h).cell (i := 0) rfl, (HX8.out.dr.bl h).cell (i := 1) rfl, HCy.out _ (bel_bl (bel_dr HB8.out) h)⟩)
          refine wp_region_in3 11 9 (From_ w8.heap.size) (gamL [some (.agg #[.slice A n c, .slice B m k]), some (.slice (some ⟨bd, of2, none⟩) L.length cl), some (.int .i64 (i : Int)), some (.pointer (some ⟨bd, of2 + i * 3, none⟩)), some (.agg #[.int .i64 y1_, .int .i64 y2_, .int .i64 y3_]), some (.agg #[.int .i64 o1, .int .i64 o2, .int .i64 o3]), some (.tuple #[.agg #[.int .i64 p1, .int .i64 p2, .int .i64 p3], .bool true]), some (.tuple #[.agg #[.int .i64 p1, .int .i64 p2, .int .i64 p3], .bool true]), some (.agg #[.int .i64 p1, .int .i64 p2, .int .i64 p3]), some (.bool true), none] 10 w8.heap.size 29 [.int .i64 0, .int .i64 0, .int .i64 0]) (Ext w8.drew) (by kernel_rfl) (by kernel_rfl) (by kernel_rfl) (by kernel_rfl) (by kernel_rfl) (by kernel_rfl) (by simp only [List.getElem?_toArray, List.getElem?_cons_succ, List.getElem?_cons_zero]; exact rfl) (by kernel_rfl) (by kernel_rfl) (by kernel_rfl) ?_ (fun i v w1 w2 h hx => gamL_up i v w1 w2 h hx) (fun _ _ h k => h.trans k) (Ext.refl _) ?_ ?_ ?_
          · exact fun _ _ _ _ h => h
          · intro i hi9
            have hcase : i = 0 ∨ i = 1 ∨ i = 2 ∨ i = 3 ∨ i = 4 ∨ i = 5 ∨ i = 6 ∨ i = 7 ∨ i = 8 ∨ i = 9 ∨ i = 10 := by omega
            rcases hcase with rfl | rfl | rfl | rfl | rfl | rfl | rfl | rfl | rfl | rfl | rfl
            · intro o ho x y hg hdep
              simp only [List.getElem?_toArray, List.getElem?_cons_succ, List.getElem?_cons_zero, Option.some.injEq] at ho
              subst ho
              obtain ⟨hl0, hl1, hl2, hl3, hl4⟩ := HLd.out _ hg
              simp only [dsts, List.map_cons, List.map_nil, putAll, Act.put, List.setIfInBounds_toArray, List.set_cons_zero, List.set_cons_succ]
              refine .inl ⟨by rfl, ?_⟩
              go_simp
              exact ⟨Ext.refl _, rfl⟩
            · intro o ho x y hg hdep
              simp only [List.getElem?_toArray, List.getElem?_cons_succ, List.getElem?_cons_zero, Option.some.injEq] at ho
              subst ho
              simp only [dsts, List.map_cons, List.map_nil, putAll, Act.put, List.setIfInBounds_toArray, List.set_cons_zero, List.set_cons_succ]
              refine .inl ⟨by rfl, ?_⟩
              go_simp
              exact ⟨Ext.refl _, rfl⟩
            · intro o ho x y hg hdep
              simp only [List.getElem?_toArray, List.getElem?_cons_succ, List.getElem?_cons_zero, Option.some.injEq] at ho
              subst ho
              simp only [dsts, List.map_cons, List.map_nil, putAll, Act.put, List.setIfInBounds_toArray, List.set_cons_zero, List.set_cons_succ]
              refine .inl ⟨by rfl, ?_⟩
              go_simp
              exact ⟨Ext.refl _, rfl⟩
            · intro o ho x y hg hdep
              simp only [List.getElem?_toArray, List.getElem?_cons_succ, List.getElem?_cons_zero, Option.some.injEq] at ho
              subst ho
              have d1 : x 1 = .slice (some ⟨bd, of2, none⟩) L.length cl := hdep 1 (by decide)
              have d2 : x 2 = .int .i64 (i : Int) := hdep 2 (by decide)
              simp only [dsts, List.map_cons, List.map_nil, putAll, Act.put, List.setIfInBounds_toArray, List.set_cons_zero, List.set_cons_succ]
              simp only [d1, d2]
              refine .inl ⟨by rfl, ?_⟩
              go_simp
              exact ⟨Ext.refl _, rfl⟩
            · intro o ho x y hg hdep
              simp only [List.getElem?_toArray, List.getElem?_cons_succ, List.getElem?_cons_zero, Option.some.injEq] at ho
              subst ho
              have d3 : x 3 = .pointer (some ⟨bd, of2 + i * 3, none⟩) := hdep 3 (by decide)
              obtain ⟨hl0, hl1, hl2, hl3, hl4⟩ := HLd.out _ hg
              simp only [dsts, List.map_cons, List.map_nil, putAll, Act.put, List.setIfInBounds_toArray, List.set_cons_zero, List.set_cons_succ]
              simp only [d3]
              refine .inl ⟨by rfl, ?_⟩
              go_simp
              exact ⟨Ext.refl _, rfl⟩
            · intro o ho x y hg hdep
              simp only [List.getElem?_toArray, List.getElem?_cons_succ, List.getElem?_cons_zero, Option.some.injEq] at ho
              subst ho
              have d4 : x 4 = .agg #[.int .i64 y1_, .int .i64 y2_, .int .i64 y3_] := hdep 4 (by decide)
              simp only [dsts, List.map_cons, List.map_nil, putAll, Act.put, List.setIfInBounds_toArray, List.set_cons_zero, List.set_cons_succ]
              simp only [d4]
              refine .inl ⟨by rfl, outT_call (by go_simp; first | done | exact ⟨rfl, rfl⟩ | with_reducible rfl) ?_⟩
              refine (HO1.out y).mono ?_
              rintro e w2 ⟨rfl, hb⟩
              exact ⟨_, rfl, hb, rfl⟩
            · intro o ho x y hg hdep
              simp only [List.getElem?_toArray, List.getElem?_cons_succ, List.getElem?_cons_zero, Option.some.injEq] at ho
              subst ho
              have d0 : x 0 = .agg #[.slice A n c, .slice B m k] := hdep 0 (by decide)
              have d5 : x 5 = .agg #[.int .i64 o1, .int .i64 o2, .int .i64 o3] := hdep 5 (by decide)
              have d5 : x 5 = .agg #[.int .i64 o1, .int .i64 o2, .int .i64 o3] := hdep 5 (by decide)
              simp only [dsts, List.map_cons, List.map_nil, putAll, Act.put, List.setIfInBounds_toArray, List.set_cons_zero, List.set_cons_succ]
              simp only [d0, d5, d5]
              refine .inl ⟨by rfl, outT_call (by go_simp; first | done | exact ⟨rfl, rfl⟩ | with_reducible rfl) ?_⟩
              refine (HO2.out y (HD8.out.dr.bl hg)).mono ?_
              rintro e w2 ⟨rfl, hb⟩
              exact ⟨_, rfl, hb, rfl⟩
            · intro o ho x y hg hdep
              simp only [List.getElem?_toArray, List.getElem?_cons_succ, List.getElem?_cons_zero, Option.some.injEq] at ho
              subst ho
              have d6 : x 6 = .tuple #[.agg #[.int .i64 p1, .int .i64 p2, .int .i64 p3], .bool true] := hdep 6 (by decide)
              simp only [dsts, List.map_cons, List.map_nil, putAll, Act.put, List.setIfInBounds_toArray, List.set_cons_zero, List.set_cons_succ]
              simp only [d6]
              refine .inl ⟨by rfl, ?_⟩
              go_simp
              exact ⟨Ext.refl _, rfl⟩
            · intro o ho x y hg hdep
              simp only [List.getElem?_toArray, List.getElem?_cons_succ, List.getElem?_cons_zero, Option.some.injEq] at ho
              subst ho
              have d7 : x 7 = .tuple #[.agg #[.int .i64 p1, .int .i64 p2, .int .i64 p3], .bool true] := hdep 7 (by decide)
              simp only [dsts, List.map_cons, List.map_nil, putAll, Act.put, List.setIfInBounds_toArray, List.set_cons_zero, List.set_cons_succ]
              simp only [d7]
              refine .inl ⟨by rfl, ?_⟩
              go_simp
              exact ⟨Ext.refl _, rfl⟩
            · intro o ho x y hg hdep
              simp only [List.getElem?_toArray, List.getElem?_cons_succ, List.getElem?_cons_zero, Option.some.injEq] at ho
              subst ho
              have d7 : x 7 = .tuple #[.agg #[.int .i64 p1, .int .i64 p2, .int .i64 p3], .bool true] := hdep 7 (by decide)
              simp only [dsts, List.map_cons, List.map_nil, putAll, Act.put, List.setIfInBounds_toArray, List.set_cons_zero, List.set_cons_succ]
              simp only [d7]
              refine .inl ⟨by rfl, ?_⟩
              go_simp
              exact ⟨Ext.refl _, rfl⟩
            · intro o ho x y hg hdep
              simp only [List.getElem?_toArray, List.getElem?_cons_succ, List.getElem?_cons_zero, Option.some.injEq] at ho
              subst ho
              simp only [dsts, List.map_cons, List.map_nil, putAll, Act.put, List.setIfInBounds_toArray, List.set_cons_zero, List.set_cons_succ]
              refine .inl ⟨by rfl, outT_run (w' := y.alloc (.cells #[.int .i64 0, .int .i64 0, .int .i64 0] 29)) (by go_simp; first | done | exact rfl | exact ⟨rfl, rfl⟩) (below1 _ _) ?_⟩
              exact ⟨y.heap.size, rfl, hg.size, Whole.new_ _ _ [.int .i64 0, .int .i64 0, .int .i64 0]⟩
          · intro x y hg hall
            have d7 : x 7 = .tuple #[.agg #[.int .i64 p1, .int .i64 p2, .int .i64 p3], .bool true] := hall 7 (by decide) (by decide)
            simp only [dsts, List.map_cons, List.map_nil, putAll, Act.put, List.setIfInBounds_toArray, List.set_cons_zero, List.set_cons_succ]
            simp only [d7]
            refine ⟨.bool true, ?_, rfl⟩
            apply yr_run; rfl; intro w' hw'; go_simp; (try with_reducible rfl)
          intro x y hg hall
          have d8 : x 8 = .agg #[.int .i64 p1, .int .i64 p2, .int .i64 p3] := hall 8 (by decide)
          have d9 : x 9 = .bool true := hall 9 (by decide)
          obtain ⟨gC, d10, hlr, hwr⟩ : ∃ g, x 10 = .pointer (some ⟨g, 0, none⟩) ∧ w8.heap.size ≤ g ∧ Whole y g 29 [.int .i64 0, .int .i64 0, .int .i64 0] := hall 10 (by decide)
          simp only [dsts, List.map_cons, List.map_nil, putAll, Act.put, List.setIfInBounds_toArray, List.set_cons_zero, List.set_cons_succ]
          simp only [d8, d9, d10]
          have HWy := Lib.hid hwr
          have HBy := Lib.hid (bel_bl (bel_dr (Below.refl _ w8)) hg)
          have HLoC : RowKit.Hid (w8.heap.size ≤ gC) := Lib.hid hlr
          have HW0 : RowKit.Hid (w8.heap.size ≤ w8.heap.size) := Lib.hid (by omega)
          clear hg hall d8 d9 d10 hlr hwr
          apply wpR_store 11
          · simp only [List.getElem?_toArray, List.getElem?_cons_succ, List.getElem?_cons_zero]; exact rfl
          · rfl
          · kernel_rfl
          · rfl
          intro w' hw'
          refine ⟨w'.setRow gC #[.int .i64 p1, .int .i64 p2, .int .i64 p3], store_row_run 29 (.tmp 20) (.tmp 114) rfl gC rfl [.int .i64 p1, .int .i64 p2, .int .i64 p3] rfl 29 [.int .i64 0, .int .i64 0, .int .i64 0] (HWy.out.bl hw') (by kernel_rfl) rfl (by simp [Value.oneCell']), kept_row (show w8.heap.size ≤ gC by have := HLoC.out; have := HW0.out; omega) _, ?_⟩
          have HWz : RowKit.Hid (Whole (w'.setRow gC #[.int .i64 p1, .int .i64 p2, .int .i64 p3]) gC 29 [.int .i64 p1, .int .i64 p2, .int .i64 p3]) := Lib.hid (Whole.row (HWy.out.bl hw') [.int .i64 p1, .int .i64 p2, .int .i64 p3])
          have HBz : RowKit.Hid (Below w8.heap.size w8 (w'.setRow gC #[.int .i64 p1, .int .i64 p2, .int .i64 p3])) := Lib.hid (below_row (bel_bl HBy.out hw') HLoC.out _)
          obtain ⟨V1C, gV1C⟩ : ∃ z, w'.setRow gC #[.int .i64 p1, .int .i64 p2, .int .i64 p3] = z := ⟨_, rfl⟩
          rw [gV1C] at HWz HBz ⊢
          clear hw' gV1C HWy HBy
          apply wpR_next 12 (some 21)
          · simp only [List.getElem?_toArray, List.getElem?_cons_succ, List.getElem?_cons_zero]; exact rfl
          · rfl
          · kernel_rfl
          · kernel_rfl
          · kernel_rfl
          · exact fun _ _ _ _ h => h
          apply Exists.intro
          apply And.intro
          · apply yr_run; rfl; intro w' hw'; go_simp; (try with_reducible rfl)
          simp only [Act.put, List.setIfInBounds_toArray, List.set_cons_zero, List.set_cons_succ]
          refine wpR_done (by kernel_rfl) ?_ _
          intro WC hw8
          have HWrC := Lib.hid (HWz.out.bl hw8)
          have HBrC := Lib.hid (bel_bl HBz.out hw8)
          clear hw8 HWz HBz HW0
          have HBlC : RowKit.Hid (Below w8.heap.size w8 WC) := Lib.hid HBrC.out
          have Da_1202 := Lib.hid (HD8.out.bl HBlC.out)
          have D0_1202 := Lib.hid (HX8.out.bl HBlC.out)
          have S_1202 := Lib.hid (HS8.out.bl HBlC.out)
          have P_1202 := Lib.hid (HP8.out.bl HBlC.out)
          have Gb_1202 := Lib.hid (HG8.out.bl HBlC.out)
          have Bel_1202 := Lib.hid (bel_bl HB8.out HBlC.out)
          clear HD8 HX8 HS8 HP8 HG8 HB8
          clear HLd HBrC
          have hqp : ∀ W, (binOp .neq 29 (.agg #[.int .i64 p1, .int .i64 p2, .int .i64 p3]) (.agg #[.int .i64 p1, .int .i64 p2, .int .i64 p3])).run Try.prog W = .ok (.bool false) W := fun W => by
            have e := neq_dart_run (p1, p2, p3) (p1, p2, p3) W
            rw [decide_eq_true rfl] at e
            exact e
          have lw1203 : (WC).cell? ⟨gB, 0, none⟩ = some (.int .i64 p1) := Gb_1202.out.cell (i := 0) rfl
          have lw1204 : (WC).cell? ⟨gB, 1, none⟩ = some (.int .i64 p2) := Gb_1202.out.cell (i := 1) rfl
          have lw1205 : (WC).cell? ⟨gB, 2, none⟩ = some (.int .i64 p3) := Gb_1202.out.cell (i := 2) rfl
          have lw1206 : (WC).cell? ⟨gC, 0, none⟩ = some (.int .i64 p1) := HWrC.out.cell (i := 0) rfl
          have lw1207 : (WC).cell? ⟨gC, 1, none⟩ = some (.int .i64 p2) := HWrC.out.cell (i := 1) rfl
          have lw1208 : (WC).cell? ⟨gC, 2, none⟩ = some (.int .i64 p3) := HWrC.out.cell (i := 2) rfl
          have HSn := Lib.hid S_1202.out
          have HPn_ := Lib.hid P_1202.out
          have HNn := HN8
          go_wp2
          go_roundw
          case rel => exact ⟨i + 1, A7, c7, A8, c8, by omega, by go_num, rfl, rfl, HSn, HPn_, HNn⟩
          case measure => simp [intOf] <;> omega
        · obtain rfl : L.length = i := by omega
          have HYo := Lib.hid ((HXx.out.bl HBo.out).bl HBw.out)
          have HZo := Lib.hid ((HXy.out.bl HBo.out).bl HBw.out)
          have HBz := Lib.hid (bel_bl (bel_bl HB5.out HBo.out) HBw.out)
          have hm2 : IntKind.i64.wrap (2 * (m : Int)) = ((L.length : Nat) : Int) := by rw [IntWalk.i64_in _ (by omega), HLl.out]; omega
          obtain ⟨ln, gln⟩ : ∃ z, L.length = z := ⟨_, rfl⟩
          rw [gln] at hm2
          clear HS HP HN HTo
          go_upto_region 26 with fail
          have Da_1301 := Lib.hid (HDo.out.dr)
          have D0_1301 := Lib.hid (HXo.out.dr)
          have X_1301 := Lib.hid (HYo.out.dr)
          have Y_1301 := Lib.hid (HZo.out.dr)
          have Bel_1301 := Lib.hid (bel_dr HBz.out)
          have ld1302 : ∀ w', Kept Nil_ wo.drew w' → w'.cell? ⟨(w.heap.size + 1), 0, none⟩ = some (.int .i64 x1) := fun w' h => h.nil_cell (X_1301.out.cell (i := 0) rfl)
          have ld1303 : ∀ w', Kept Nil_ wo.drew w' → w'.cell? ⟨(w.heap.size + 1), 1, none⟩ = some (.int .i64 x2) := fun w' h => h.nil_cell (X_1301.out.cell (i := 1) rfl)
          have ld1304 : ∀ w', Kept Nil_ wo.drew w' → w'.cell? ⟨(w.heap.size + 1), 2, none⟩ = some (.int .i64 x3) := fun w' h => h.nil_cell (X_1301.out.cell (i := 2) rfl)
          have ld1305 : ∀ w', Kept Nil_ wo.drew w' → w'.cell? ⟨(w.heap.size + 1 + 1), 0, none⟩ = some (.int .i64 y1) := fun w' h => h.nil_cell (Y_1301.out.cell (i := 0) rfl)
          have ld1306 : ∀ w', Kept Nil_ wo.drew w' → w'.cell? ⟨(w.heap.size + 1 + 1), 1, none⟩ = some (.int .i64 y2) := fun w' h => h.nil_cell (Y_1301.out.cell (i := 1) rfl)
          have ld1307 : ∀ w', Kept Nil_ wo.drew w' → w'.cell? ⟨(w.heap.size + 1 + 1), 2, none⟩ = some (.int .i64 y3) := fun w' h => h.nil_cell (Y_1301.out.cell (i := 2) rfl)
          have ld1308 : ∀ w', Kept Nil_ wo.drew w' → w'.cell? ⟨w.heap.size, 0, none⟩ = some (.slice A n c) := fun w' h => h.nil_cell (D0_1301.out.cell (i := 0) rfl)
          have ld1309 : ∀ w', Kept Nil_ wo.drew w' → w'.cell? ⟨w.heap.size, 1, none⟩ = some (.slice B m k) := fun w' h => h.nil_cell (D0_1301.out.cell (i := 1) rfl)
          refine wp_region_reg Nil_ (by kernel_rfl) ?_
          apply wpR_next 0 (some 119)
          · simp only [List.getElem?_toArray, List.getElem?_cons_succ, List.getElem?_cons_zero]; exact rfl
          · rfl
          · kernel_rfl
          · kernel_rfl
          · kernel_rfl
          · exact fun _ _ _ _ h => h
          apply Exists.intro
          apply And.intro
          · apply yr_run; rfl; intro w' hw'; go_simp; (try with_reducible rfl)
          simp only [Act.put, List.setIfInBounds_toArray, List.set_cons_zero, List.set_cons_succ]
          apply wpR_next 1 (some 120)
          · simp only [List.getElem?_toArray, List.getElem?_cons_succ, List.getElem?_cons_zero]; exact rfl
          · rfl
          · kernel_rfl
          · kernel_rfl
          · kernel_rfl
          · exact fun _ _ _ _ h => h
          apply Exists.intro
          apply And.intro
          · apply yr_run; rfl; intro w' hw'; go_simp; (try with_reducible rfl)
          simp only [Act.put, List.setIfInBounds_toArray, List.set_cons_zero, List.set_cons_succ]
          apply wpR_next 2 (some 121)
          · simp only [List.getElem?_toArray, List.getElem?_cons_succ, List.getElem?_cons_zero]; exact rfl
          · rfl
          · kernel_rfl
          · kernel_rfl
          · kernel_rfl
          · exact fun _ _ _ _ h => h
          apply Exists.intro
          apply And.intro
          · apply yr_run; rfl; intro w' hw'; go_simp; (try with_reducible rfl)
          simp only [Act.put, List.setIfInBounds_toArray, List.set_cons_zero, List.set_cons_succ]
          apply wpR_next 3 (some 122)
          · simp only [List.getElem?_toArray, List.getElem?_cons_succ, List.getElem?_cons_zero]; exact rfl
          · rfl
          · kernel_rfl
          · kernel_rfl
          · kernel_rfl
          · exact fun _ _ _ _ h => h
          apply Exists.intro
          apply And.intro
          · apply yr_run; rfl; intro w' hw'; go_simp; (try with_reducible rfl)
          simp only [Act.put, List.setIfInBounds_toArray, List.set_cons_zero, List.set_cons_succ]
          apply wpR_next 4 (some 123)
          · simp only [List.getElem?_toArray, List.getElem?_cons_succ, List.getElem?_cons_zero]; exact rfl
          · rfl
          · kernel_rfl
          · kernel_rfl
          · kernel_rfl
          · exact fun _ _ _ _ h => h
          apply Exists.intro
          apply And.intro
          · apply yr_run; rfl; intro w' hw'; go_simp; (try with_reducible rfl)
          simp only [Act.put, List.setIfInBounds_toArray, List.set_cons_zero, List.set_cons_succ]
          apply wpR_next 5 (some 124)
          · simp only [List.getElem?_toArray, List.getElem?_cons_succ, List.getElem?_cons_zero]; exact rfl
          · rfl
          · kernel_rfl
          · kernel_rfl
          · kernel_rfl
          · exact fun _ _ _ _ h => h
          apply Exists.intro
          apply And.intro
          · apply yr_run; rfl; intro w' hw'; go_simp; (try with_reducible rfl)
          simp only [Act.put, List.setIfInBounds_toArray, List.set_cons_zero, List.set_cons_succ]
          apply wpR_next 6 (some 125)
          · simp only [List.getElem?_toArray, List.getElem?_cons_succ, List.getElem?_cons_zero]; exact rfl
          · rfl
          · kernel_rfl
          · kernel_rfl
          · kernel_rfl
          · exact fun _ _ _ _ h => h
          apply Exists.intro
          apply And.intro
          · apply yr_run; rfl; intro w' hw'; go_simp; (try with_reducible rfl)
          simp only [Act.put, List.setIfInBounds_toArray, List.set_cons_zero, List.set_cons_succ]
          apply wpR_next 7 (some 126)
          · simp only [List.getElem?_toArray, List.getElem?_cons_succ, List.getElem?_cons_zero]; exact rfl
          · rfl
          · kernel_rfl
          · kernel_rfl
          · kernel_rfl
          · exact fun _ _ _ _ h => h
          apply Exists.intro
          apply And.intro
          · apply yr_run; rfl; intro w' hw'; go_simp; (try with_reducible rfl)
          simp only [Act.put, List.setIfInBounds_toArray, List.set_cons_zero, List.set_cons_succ]
          apply wpR_next 8 (some 127)
          · simp only [List.getElem?_toArray, List.getElem?_cons_succ, List.getElem?_cons_zero]; exact rfl
          · rfl
          · kernel_rfl
          · kernel_rfl
          · kernel_rfl
          · exact fun _ _ _ _ h => h
          apply Exists.intro
          apply And.intro
          · apply yr_run; rfl; intro w' hw'; go_simp; (try with_reducible rfl)
          simp only [Act.put, List.setIfInBounds_toArray, List.set_cons_zero, List.set_cons_succ]
          apply wpR_next 9 (some 128)
          · simp only [List.getElem?_toArray, List.getElem?_cons_succ, List.getElem?_cons_zero]; exact rfl
          · rfl
          · kernel_rfl
          · kernel_rfl
          · kernel_rfl
          · exact fun _ _ _ _ h => h
          apply Exists.intro
          apply And.intro
          · apply yr_run; rfl; intro w' hw'; go_simp; (try with_reducible rfl)
          simp only [Act.put, List.setIfInBounds_toArray, List.set_cons_zero, List.set_cons_succ]
          apply wpR_next 10 (some 129)
          · simp only [List.getElem?_toArray, List.getElem?_cons_succ, List.getElem?_cons_zero]; exact rfl
          · rfl
          · kernel_rfl
          · kernel_rfl
          · kernel_rfl
          · exact fun _ _ _ _ h => h
          apply Exists.intro
          apply And.intro
          · apply yr_run; rfl; intro w' hw'; go_simp; (try with_reducible rfl)
          simp only [Act.put, List.setIfInBounds_toArray, List.set_cons_zero, List.set_cons_succ]
          apply wpR_next 11 (some 130)
          · simp only [List.getElem?_toArray, List.getElem?_cons_succ, List.getElem?_cons_zero]; exact rfl
          · rfl
          · kernel_rfl
          · kernel_rfl
          · kernel_rfl
          · exact fun _ _ _ _ h => h
          apply Exists.intro
          apply And.intro
          · apply yr_run; rfl; intro w' hw'; go_simp; (try with_reducible rfl)
          simp only [Act.put, List.setIfInBounds_toArray, List.set_cons_zero, List.set_cons_succ]
          apply wpR_next 13 (some 132)
          · simp only [List.getElem?_toArray, List.getElem?_cons_succ, List.getElem?_cons_zero]; exact rfl
          · rfl
          · kernel_rfl
          · kernel_rfl
          · kernel_rfl
          · exact fun _ _ _ _ h => h
          apply Exists.intro
          apply And.intro
          · apply yr_run; rfl; intro w' hw'; go_simp; (try with_reducible rfl)
          simp only [Act.put, List.setIfInBounds_toArray, List.set_cons_zero, List.set_cons_succ]
          apply wpR_next 14 (some 133)
          · simp only [List.getElem?_toArray, List.getElem?_cons_succ, List.getElem?_cons_zero]; exact rfl
          · rfl
          · kernel_rfl
          · kernel_rfl
          · kernel_rfl
          · exact fun _ _ _ _ h => h
          apply Exists.intro
          apply And.intro
          · apply yr_run; rfl; intro w' hw'; go_simp; (try with_reducible rfl)
          simp only [Act.put, List.setIfInBounds_toArray, List.set_cons_zero, List.set_cons_succ]
          apply wpR_next 15 (some 134)
          · simp only [List.getElem?_toArray, List.getElem?_cons_succ, List.getElem?_cons_zero]; exact rfl
          · rfl
          · kernel_rfl
          · kernel_rfl
          · kernel_rfl
          · exact fun _ _ _ _ h => h
          apply Exists.intro
          apply And.intro
          · apply yr_run; rfl; intro w' hw'; go_simp; (try with_reducible rfl)
          simp only [Act.put, List.setIfInBounds_toArray, List.set_cons_zero, List.set_cons_succ]
          apply wpR_call 12 (some 131)
          · simp only [List.getElem?_toArray, List.getElem?_cons_succ, List.getElem?_cons_zero]; exact rfl
          · rfl
          · kernel_rfl
          · rfl
          · intro w'; go_simp; first | done | exact ⟨rfl, rfl⟩ | with_reducible rfl
          intro w' hw'
          refine (HSxy.out _ (Da_1301.out.bl hw')).mono ?_
          rintro e w1310 ⟨rfl, hb1310⟩
          have Da_1310 := Lib.hid ((Da_1301.out.bl hw').bl hb1310)
          have D0_1310 := Lib.hid ((D0_1301.out.bl hw').bl hb1310)
          have X_1310 := Lib.hid ((X_1301.out.bl hw').bl hb1310)
          have Y_1310 := Lib.hid ((Y_1301.out.bl hw').bl hb1310)
          have Bel_1310 := Lib.hid (bel_bl (bel_bl Bel_1301.out hw') hb1310)
          have ld1311 := fun w'' (h : Kept Nil_ w1310 w'') => ld1302 w'' ((Kept.of_ext hw').trans ((Kept.of_below hb1310).trans h))
          have ld1312 := fun w'' (h : Kept Nil_ w1310 w'') => ld1303 w'' ((Kept.of_ext hw').trans ((Kept.of_below hb1310).trans h))
          have ld1313 := fun w'' (h : Kept Nil_ w1310 w'') => ld1304 w'' ((Kept.of_ext hw').trans ((Kept.of_below hb1310).trans h))
          have ld1314 := fun w'' (h : Kept Nil_ w1310 w'') => ld1305 w'' ((Kept.of_ext hw').trans ((Kept.of_below hb1310).trans h))
          have ld1315 := fun w'' (h : Kept Nil_ w1310 w'') => ld1306 w'' ((Kept.of_ext hw').trans ((Kept.of_below hb1310).trans h))
          have ld1316 := fun w'' (h : Kept Nil_ w1310 w'') => ld1307 w'' ((Kept.of_ext hw').trans ((Kept.of_below hb1310).trans h))
          have ld1317 := fun w'' (h : Kept Nil_ w1310 w'') => ld1308 w'' ((Kept.of_ext hw').trans ((Kept.of_below hb1310).trans h))
          have ld1318 := fun w'' (h : Kept Nil_ w1310 w'') => ld1309 w'' ((Kept.of_ext hw').trans ((Kept.of_below hb1310).trans h))
          refine ⟨_, rfl, Kept.of_below hb1310, ?_⟩
          clear hw' hb1310
          simp only [Act.put, List.setIfInBounds_toArray, List.set_cons_zero, List.set_cons_succ]
          apply wpR_call 16 (some 135)
          · simp only [List.getElem?_toArray, List.getElem?_cons_succ, List.getElem?_cons_zero]; exact rfl
          · rfl
          · kernel_rfl
          · rfl
          · intro w'; go_simp; first | done | exact ⟨rfl, rfl⟩ | with_reducible rfl
          intro w' hw'
          refine (HSyx.out _ (Da_1310.out.bl hw')).mono ?_
          rintro e w1319 ⟨rfl, hb1319⟩
          have Da_1319 := Lib.hid ((Da_1310.out.bl hw').bl hb1319)
          have D0_1319 := Lib.hid ((D0_1310.out.bl hw').bl hb1319)
          have X_1319 := Lib.hid ((X_1310.out.bl hw').bl hb1319)
          have Y_1319 := Lib.hid ((Y_1310.out.bl hw').bl hb1319)
          have Bel_1319 := Lib.hid (bel_bl (bel_bl Bel_1310.out hw') hb1319)
          have ld1320 := fun w'' (h : Kept Nil_ w1319 w'') => ld1311 w'' ((Kept.of_ext hw').trans ((Kept.of_below hb1319).trans h))
          have ld1321 := fun w'' (h : Kept Nil_ w1319 w'') => ld1312 w'' ((Kept.of_ext hw').trans ((Kept.of_below hb1319).trans h))
          have ld1322 := fun w'' (h : Kept Nil_ w1319 w'') => ld1313 w'' ((Kept.of_ext hw').trans ((Kept.of_below hb1319).trans h))
          have ld1323 := fun w'' (h : Kept Nil_ w1319 w'') => ld1314 w'' ((Kept.of_ext hw').trans ((Kept.of_below hb1319).trans h))
          have ld1324 := fun w'' (h : Kept Nil_ w1319 w'') => ld1315 w'' ((Kept.of_ext hw').trans ((Kept.of_below hb1319).trans h))
          have ld1325 := fun w'' (h : Kept Nil_ w1319 w'') => ld1316 w'' ((Kept.of_ext hw').trans ((Kept.of_below hb1319).trans h))
          have ld1326 := fun w'' (h : Kept Nil_ w1319 w'') => ld1317 w'' ((Kept.of_ext hw').trans ((Kept.of_below hb1319).trans h))
          have ld1327 := fun w'' (h : Kept Nil_ w1319 w'') => ld1318 w'' ((Kept.of_ext hw').trans ((Kept.of_below hb1319).trans h))
          refine ⟨_, rfl, Kept.of_below hb1319, ?_⟩
          clear hw' hb1319
          simp only [Act.put, List.setIfInBounds_toArray, List.set_cons_zero, List.set_cons_succ]
          apply wpR_next 17 (some 136)
          · simp only [List.getElem?_toArray, List.getElem?_cons_succ, List.getElem?_cons_zero]; exact rfl
          · rfl
          · kernel_rfl
          · kernel_rfl
          · kernel_rfl
          · exact fun _ _ _ _ h => h
          apply Exists.intro
          apply And.intro
          · apply yr_run; rfl; intro w' hw'; go_simp; (try with_reducible rfl)
          simp only [Act.put, List.setIfInBounds_toArray, List.set_cons_zero, List.set_cons_succ]
          apply wpR_next 18 (some 137)
          · simp only [List.getElem?_toArray, List.getElem?_cons_succ, List.getElem?_cons_zero]; exact rfl
          · rfl
          · kernel_rfl
          · kernel_rfl
          · kernel_rfl
          · exact fun _ _ _ _ h => h
          apply Exists.intro
          apply And.intro
          · apply yr_run; rfl; intro w' hw'; go_simp; (try with_reducible rfl)
          simp only [Act.put, List.setIfInBounds_toArray, List.set_cons_zero, List.set_cons_succ]
          apply wpR_next 19 (some 138)
          · simp only [List.getElem?_toArray, List.getElem?_cons_succ, List.getElem?_cons_zero]; exact rfl
          · rfl
          · kernel_rfl
          · kernel_rfl
          · kernel_rfl
          · exact fun _ _ _ _ h => h
          apply Exists.intro
          apply And.intro
          · apply yr_run; rfl; intro w' hw'; go_simp; (try with_reducible rfl)
          simp only [Act.put, List.setIfInBounds_toArray, List.set_cons_zero, List.set_cons_succ]
          apply wpR_next 20 (some 139)
          · simp only [List.getElem?_toArray, List.getElem?_cons_succ, List.getElem?_cons_zero]; exact rfl
          · rfl
          · kernel_rfl
          · kernel_rfl
          · kernel_rfl
          · exact fun _ _ _ _ h => h
          apply Exists.intro
          apply And.intro
          · apply yr_run; rfl; intro w' hw'; go_simp; (try with_reducible rfl)
          simp only [Act.put, List.setIfInBounds_toArray, List.set_cons_zero, List.set_cons_succ]
          apply wpR_next 21 (some 140)
          · simp only [List.getElem?_toArray, List.getElem?_cons_succ, List.getElem?_cons_zero]; exact rfl
          · rfl
          · kernel_rfl
          · kernel_rfl
          · kernel_rfl
          · exact fun _ _ _ _ h => h
          apply Exists.intro
          apply And.intro
          · apply yr_run; rfl; intro w' hw'; go_simp; (try with_reducible rfl)
          simp only [Act.put, List.setIfInBounds_toArray, List.set_cons_zero, List.set_cons_succ]
          apply wpR_next 22 (some 141)
          · simp only [List.getElem?_toArray, List.getElem?_cons_succ, List.getElem?_cons_zero]; exact rfl
          · rfl
          · kernel_rfl
          · kernel_rfl
          · kernel_rfl
          · exact fun _ _ _ _ h => h
          apply Exists.intro
          apply And.intro
          · apply yr_run; rfl; intro w' hw'; go_simp; (try with_reducible rfl)
          simp only [Act.put, List.setIfInBounds_toArray, List.set_cons_zero, List.set_cons_succ]
          apply wpR_next 23 (some 142)
          · simp only [List.getElem?_toArray, List.getElem?_cons_succ, List.getElem?_cons_zero]; exact rfl
          · rfl
          · kernel_rfl
          · kernel_rfl
          · kernel_rfl
          · exact fun _ _ _ _ h => h
          apply Exists.intro
          apply And.intro
          · apply yr_run; rfl; intro w' hw'; go_simp; (try with_reducible rfl)
          simp only [Act.put, List.setIfInBounds_toArray, List.set_cons_zero, List.set_cons_succ]
          apply wpR_next 24 (some 143)
          · simp only [List.getElem?_toArray, List.getElem?_cons_succ, List.getElem?_cons_zero]; exact rfl
          · rfl
          · kernel_rfl
          · kernel_rfl
          · kernel_rfl
          · exact fun _ _ _ _ h => h
          apply Exists.intro
          apply And.intro
          · apply yr_run; rfl; intro w' hw'; go_simp; (try with_reducible rfl)
          simp only [Act.put, List.setIfInBounds_toArray, List.set_cons_zero, List.set_cons_succ]
          apply wpR_next 25 (some 144)
          · simp only [List.getElem?_toArray, List.getElem?_cons_succ, List.getElem?_cons_zero]; exact rfl
          · rfl
          · kernel_rfl
          · kernel_rfl
          · kernel_rfl
          · exact fun _ _ _ _ h => h
          apply Exists.intro
          apply And.intro
          · apply yr_run; rfl; intro w' hw'; go_simp; (try with_reducible rfl)
          simp only [Act.put, List.setIfInBounds_toArray, List.set_cons_zero, List.set_cons_succ]
          apply wpR_next 26 (some 145)
          · simp only [List.getElem?_toArray, List.getElem?_cons_succ, List.getElem?_cons_zero]; exact rfl
          · rfl
          · kernel_rfl
          · kernel_rfl
          · kernel_rfl
          · exact fun _ _ _ _ h => h
          apply Exists.intro
          apply And.intro
          · apply yr_run; rfl; intro w' hw'; go_simp; (try with_reducible rfl)
          simp only [Act.put, List.setIfInBounds_toArray, List.set_cons_zero, List.set_cons_succ]
          apply wpR_next 27 (some 146)
          · simp only [List.getElem?_toArray, List.getElem?_cons_succ, List.getElem?_cons_zero]; exact rfl
          · rfl
          · kernel_rfl
          · kernel_rfl
          · kernel_rfl
          · exact fun _ _ _ _ h => h
          apply Exists.intro
          apply And.intro
          · apply yr_run; rfl; intro w' hw'; go_simp; (try with_reducible rfl)
          simp only [Act.put, List.setIfInBounds_toArray, List.set_cons_zero, List.set_cons_succ]
          apply wpR_next 28 (some 6)
          · simp only [List.getElem?_toArray, List.getElem?_cons_succ, List.getElem?_cons_zero]; exact rfl
          · rfl
          · kernel_rfl
          · kernel_rfl
          · kernel_rfl
          · exact fun _ _ _ _ h => h
          apply Exists.intro
          apply And.intro
          · apply yr_run; rfl; intro w' hw'; go_simp; (try with_reducible rfl)
          simp only [Act.put, List.setIfInBounds_toArray, List.set_cons_zero, List.set_cons_succ]
          refine wpR_done (by kernel_rfl) ?_ _
          intro w1328 hw'
          have Da_1329 := Lib.hid (Da_1319.out.bl hw')
          have D0_1329 := Lib.hid (D0_1319.out.bl hw')
          have X_1329 := Lib.hid (X_1319.out.bl hw')
          have Y_1329 := Lib.hid (Y_1319.out.bl hw')
          have Bel_1329 := Lib.hid (bel_bl Bel_1319.out hw')
          clear Da_1319 D0_1319 X_1319 Y_1319 Bel_1319
          clear hw'
          go_wp2
          go_ret
          exact ⟨by first | rfl | simp, Bel_1329.out⟩
end Go.Proofs.Ytjkbcpikdkidhaa
