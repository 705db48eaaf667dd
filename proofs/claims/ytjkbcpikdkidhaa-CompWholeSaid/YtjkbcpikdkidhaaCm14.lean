/- CompWhole's walk. -/
import Derived.Test.YtjkbcpikdkidhaaCm13n
import Derived.Test.YtjkbcpikdkidhaaAtr
namespace Go.Proofs.Ytjkbcpikdkidhaa
open Go.RowKit
set_option linter.unusedSimpArgs false
set_option linter.unusedVariables false


theorem partJ_mem {L : List Int} {N : Nat → I2} {j r q : Nat} {y : I2} (h : (partJ L N j r)[q]? = some y) : ∃ k, k < j ∧ L.getD k 0 = (r : Int) ∧ y = N k := by
  obtain ⟨k, hk, rfl⟩ := List.mem_map.1 (List.mem_of_getElem? h)
  rw [List.mem_filter, List.mem_range] at hk
  exact ⟨k, hk.1, eq_of_beq hk.2, rfl⟩
theorem partJ_len (L : List Int) (N : Nat → I2) (j r : Nat) : (partJ L N j r).length ≤ j := by
  rw [partJ, List.length_map]
  have h8 := List.length_filter_le (fun k => L.getD k 0 == (r : Int)) (List.range j)
  rwa [List.length_range] at h8
/-- All rows together are all vertices. -/
def sumL (X : List (List I2)) : Nat := (X.map (·.length)).sum
theorem sumL_set : ∀ (X : List (List I2)) (p : Nat) (y : List I2) (x : List I2), X[p]? = some x → y.length = x.length + 1 → sumL (X.set p y) = sumL X + 1
  | a :: X, 0, y, x, h, hl => by
    obtain rfl : a = x := by simpa using h
    simp [sumL, hl]
    omega
  | a :: X, p + 1, y, x, h, hl => by
    have := sumL_set X p y x (by simpa using h) hl
    simp only [sumL, List.set_cons_succ, List.map_cons, List.sum_cons] at this ⊢
    omega
theorem parts_sum {L : List Int} (hL : LbOk L) (N : Nat → I2) : ∀ j, j ≤ L.length → sumL (partsJ L N j) = j
  | 0, _ => rfl
  | j + 1, h => by
    have ih := parts_sum hL N j (by omega)
    by_cases hr : L.getD j 0 = (j : Int)
    · rw [parts_root hL N (by omega) hr]
      rw [sumL_set _ _ _ [] (by rw [← partsJ_len L N j, List.getElem?_append_right (Nat.le_refl _), Nat.sub_self]; rfl) rfl]
      have : sumL (partsJ L N j ++ [[]]) = sumL (partsJ L N j) := by simp [sumL]
      omega
    · obtain ⟨l, hl⟩ : ∃ l : Nat, L.getD j 0 = (l : Int) := ⟨(L.getD j 0).toNat, by have := (hL j (by omega)).1; omega⟩
      obtain ⟨h1, h2, h3, h4⟩ := parts_more hL N (by omega) hl (by rintro rfl; exact hr hl)
      rw [h4, sumL_set _ _ _ _ h3 (by simp), ih]
theorem sum_take (X : List (List I2)) (i : Nat) (x : List I2) (h : X[i]? = some x) : sumL (X.take (i + 1)) = sumL (X.take i) + x.length := by
  rw [List.take_add_one, h]
  simp [sumL]
theorem nm_at {Vs : List VC} {k : Nat} {v : VC} (h : Vs[k]? = some v) : nmV Vs k = v.1 := by
  unfold nmV
  rw [List.getD_eq_getElem?_getD, List.getElem?_map, h]
  rfl
/-- What a part holds: not nothing, and vertices of one label. -/
theorem part_row {Vs : List VC} (hn : (Vs.map (·.1)).Nodup) {i : Nat} {x : List I2} (hx : (partsF Vs)[i]? = some x) :
    ∃ r, (rootsJ (labF Vs) Vs.length)[i]? = some r ∧ (∃ y : I2, x[0]? = some y) ∧ ∀ (q : Nat) (y : I2), x[q]? = some y → ∃ (k : Nat) (v : VC), Vs[k]? = some v ∧ v.1 = y ∧ (labF Vs).getD k 0 = (r : Int) := by
  rw [partsF, partsJ, List.getElem?_map] at hx
  cases hr : (rootsJ (labF Vs) Vs.length)[i]? with
  | none => rw [hr] at hx; cases hx
  | some r =>
    rw [hr] at hx
    obtain rfl := Option.some.inj hx
    obtain ⟨h1, h2⟩ := rootsJ_lt (List.mem_of_getElem? hr)
    refine ⟨r, rfl, ?_, fun q y hq => ?_⟩
    · have hm : nmV Vs r ∈ partJ (labF Vs) (nmV Vs) Vs.length r := List.mem_map.2 ⟨r, List.mem_filter.2 ⟨List.mem_range.2 h1, by simpa [rootB] using h2⟩, rfl⟩
      obtain ⟨q, hq⟩ := List.getElem?_of_mem hm
      have := (List.getElem?_eq_some_iff.1 hq).1
      exact ⟨_, List.getElem?_eq_getElem (by omega)⟩
    · obtain ⟨k, hk, hl, rfl⟩ := partJ_mem hq
      obtain ⟨v, hv⟩ : ∃ v, Vs[k]? = some v := ⟨_, List.getElem?_eq_getElem hk⟩
      exact ⟨k, v, hv, (nm_at hv).symm, hl⟩
/-- Those of one part hang together. -/
theorem part_tog {Vs : List VC} (hn : (Vs.map (·.1)).Nodup) {i : Nat} {x : List I2} (hx : (partsF Vs)[i]? = some x) {p q : Nat} {y z : I2} (hy : x[p]? = some y) (hz : x[q]? = some z) : togF Vs y z = true := by
  obtain ⟨r, _, _, h⟩ := part_row hn hx
  obtain ⟨a, u, hu, rfl, ha⟩ := h p y hy
  obtain ⟨b, v, hv, rfl, hb⟩ := h q z hz
  rw [tog_at hn hu hv, ha, hb]
  simp
/-- Those of two parts don't. -/
theorem part_not {Vs : List VC} (hn : (Vs.map (·.1)).Nodup) {i j : Nat} (hij : i ≠ j) {x x' : List I2} (hx : (partsF Vs)[i]? = some x) (hx' : (partsF Vs)[j]? = some x') {p q : Nat} {y z : I2} (hy : x[p]? = some y) (hz : x'[q]? = some z) : togF Vs y z = false := by
  obtain ⟨r, hr, _, h⟩ := part_row hn hx
  obtain ⟨r', hr', _, h'⟩ := part_row hn hx'
  obtain ⟨a, u, hu, rfl, ha⟩ := h p y hy
  obtain ⟨b, v, hv, rfl, hb⟩ := h' q z hz
  rw [tog_at hn hu hv, ha, hb]
  have hne : r ≠ r' := by
    rintro rfl
    have h5 := List.getElem?_eq_some_iff.1 hr
    have h6 := List.getElem?_eq_some_iff.1 hr'
    exact hij (nodup_idx (rootsJ_nodup _ _) h5.1 h6.1 (h5.2.trans h6.2.symm))
  exact beq_eq_false_iff_ne.2 (by omega)
/-- The ends of an edge hang together. -/
theorem edge_tog {Vs : List VC} {Es : List EC} (h : Formed Vs Es) {e : EC} (he : e ∈ Es) : togF Vs (atV Vs (e.1.1, e.1.2, 0)).1 (atV Vs (e.1.1, e.1.2, 1)).1 = true := by
  obtain ⟨a, v, hv, hd, ha⟩ := h.dart he 0 (.inl rfl)
  obtain ⟨b, u, hu, hd2, hb⟩ := h.dart he 1 (.inr rfl)
  rw [(h.stands hv hd).1, (h.stands hu hd2).1, tog_at (rise_nodup h.rv) hv hu]
  have := (labF_lab Vs).co a b ha hb ⟨(e.1.1, e.1.2), ⟨v, hv, _, hd, rfl⟩, ⟨u, hu, _, hd2, rfl⟩⟩
  simpa using this
set_option maxRecDepth 100000 in
set_option maxHeartbeats 4000000 in
theorem law_whole (A : Option Addr) (n c : Nat) (Vs : List VC) (B : Option Addr) (m k : Nat) (Es : List EC) (w : World) (h : DgIn w A n c Vs B m k Es) (hg : GoodD Vs Es) (hz : SmD n m Vs) :
    Calls Try.prog 10 #[.agg #[.slice A n c, .slice B m k]] w fun e w' => e = .returned (.bool true) ∧ Below w.heap.size w w' := by
  have HFo := Lib.hid (fun W (h : DgIn W A n c Vs B m k Es) => formed06_any A n c Vs B m k Es W h hg hz)
  obtain ⟨fo, gfo⟩ : ∃ z, (formD Vs Es == 0) = z := ⟨_, rfl⟩
  rw [gfo] at HFo
  have Gfo := Lib.hid gfo
  have HDa := Lib.hid h
  have HGd := Lib.hid hg
  have Hz := Lib.hid hz
  clear h hg hz gfo
  go_enter Try.func10, Try.ntmps10
  go_wp2_with fail
  refine (shown06_any _).mono ?_
  rintro e w1 ⟨rfl, hb1⟩
  have Da_2 := Lib.hid ((HDa.out.al (.cells #[.slice A n c, .slice B m k] 25)).bl hb1)
  have D0_2 := Lib.hid ((show Whole (w.alloc (.cells #[.slice A n c, .slice B m k] 25)) (w.heap.size) (25) ([.slice A n c, .slice B m k]) from Whole.new2 (by first | rfl | simp)).bl hb1)
  have Bel_2 := Lib.hid (bel_bl (bel_al (Below.refl _ w) (.cells #[.slice A n c, .slice B m k] 25)) hb1)
  clear HDa
  clear hb1
  have LO_D0_3 : RowKit.Hid (w.heap.size ≤ w.heap.size) := Lib.hid (by omega)
  have lw4 : (w1).cell? ⟨w.heap.size, 0, none⟩ = some (.slice A n c) := D0_2.out.cell (i := 0) rfl
  have lw5 : (w1).cell? ⟨w.heap.size, 1, none⟩ = some (.slice B m k) := D0_2.out.cell (i := 1) rfl
  go_wp2_with fail
  clear lw4 lw5
  refine (HFo.out _ Da_2.out).mono ?_
  rintro e w6 ⟨rfl, hb6⟩
  have Da_7 := Lib.hid (Da_2.out.bl hb6)
  have D0_7 := Lib.hid (D0_2.out.bl hb6)
  have Bel_7 := Lib.hid (bel_bl Bel_2.out hb6)
  clear Da_2 D0_2 Bel_2
  clear hb6
  by_cases hfo : fo = false
  · subst hfo
    go_wp2
    go_ret
    exact ⟨rfl, Bel_7.out⟩
  obtain rfl : fo = true := by simpa using hfo
  have HFm : RowKit.Hid (Formed Vs Es) := Lib.hid ((form0 Vs Es).1 (eq_of_beq Gfo.out))
  have Hsm := Lib.hid (HFm.out.small Da_7.out)
  have Hlv : RowKit.Hid (Vs.length = n) := Lib.hid (Da_7.out.v.rlen vC_len (by decide))
  have Hlw : RowKit.Hid (Es.length = m) := Lib.hid (Da_7.out.e.rlen eC_len (by decide))
  have hn24 : n ≤ 24 := Hsm.out.1
  have hm40 : m ≤ 40 := Hsm.out.2.1
  have HWd : RowKit.Hid (∀ v ∈ Vs, ∀ d ∈ v.2.1.2.2.2, wfD d) := Lib.hid HGd.out.v
  have Hr0 : RowKit.Hid (∀ x ∈ Vs, x.2.1.2.1 ≤ 1000000) := Lib.hid (fun x hx => by have := Hsm.out.2.2 x hx; omega)
  clear hfo HFo Gfo
  have hnd := rise_nodup HFm.out.rv
  obtain ⟨cc, gcc⟩ : ∃ z, cntF (labF Vs) = z := ⟨_, rfl⟩
  have HPa : RowKit.Hid (∀ W, DgIn W A n c Vs B m k Es → Calls Try.prog 41 #[.agg #[.slice A n c, .slice B m k]] W fun e w' => ∃ A2 c2 X, e = .returned (.slice A2 cc c2) ∧ PtIn w' W.heap.size A2 cc c2 X ∧ X.map (·.2.2) = partsF Vs ∧ Below W.heap.size W w') := Lib.hid (fun W h => gcc ▸ parts_any A n c Vs B m k Es W h (by omega) Hr0.out HWd.out)
  have HCo : RowKit.Hid (∀ W, DgIn W A n c Vs B m k Es → Calls Try.prog 44 #[.agg #[.slice A n c, .slice B m k]] W fun e w' => e = .returned (.int .i64 (cc : Int)) ∧ Below W.heap.size W w') := Lib.hid (fun W h => gcc ▸ count_any A n c Vs B m k Es W h (by omega) Hr0.out HWd.out)
  have HTg : RowKit.Hid (∀ a1 a2 b1 b2 W, DgIn W A n c Vs B m k Es → Calls Try.prog 46 #[.agg #[.slice A n c, .slice B m k], .agg #[.int .i64 a1, .int .i64 a2], .agg #[.int .i64 b1, .int .i64 b2]] W fun e w' => e = .returned (.bool (togF Vs (a1, a2) (b1, b2))) ∧ Below W.heap.size W w') := Lib.hid (fun a1 a2 b1 b2 W h => together_any A n c Vs B m k Es a1 a2 b1 b2 W h (by omega) Hr0.out HWd.out)
  have HAt : RowKit.Hid (∀ a1 a2 a3 W, DgIn W A n c Vs B m k Es → Calls Try.prog 31 #[.agg #[.slice A n c, .slice B m k], .agg #[.int .i64 a1, .int .i64 a2, .int .i64 a3]] W fun e w' => e = .returned (.tuple #[.agg #[.int .i64 (atV Vs (a1, a2, a3)).1.1, .int .i64 (atV Vs (a1, a2, a3)).1.2], .bool (atV Vs (a1, a2, a3)).2]) ∧ Below W.heap.size W w') := Lib.hid (fun a1 a2 a3 W h => rat_any A n c Vs B m k Es a1 a2 a3 W h (by omega) (fun x hx => by have := Hsm.out.2.2 x hx; omega))
  have HPl : RowKit.Hid ((partsF Vs).length = cc) := Lib.hid (by rw [partsF_len, gcc])
  have HSu : RowKit.Hid (sumL (partsF Vs) = n) := Lib.hid (by rw [partsF, parts_sum (labF_ok Vs) _ _ (by rw [labF_len]; exact Nat.le_refl _), Hlv.out])
  have HGe : RowKit.Hid (n ≤ cc + m ∧ cc ≤ n) := Lib.hid (by have h1 := cnt_ge HFm.out; have h2 := cnt_le Vs; rw [gcc, Hlv.out, Hlw.out] at h1; rw [gcc, Hlv.out] at h2; exact ⟨h1, h2⟩)
  have hcc24 : cc ≤ 24 := by have := HGe.out.2; omega
  clear gcc
  have lw8 : (w6).cell? ⟨w.heap.size, 0, none⟩ = some (.slice A n c) := D0_7.out.cell (i := 0) rfl
  have lw9 : (w6).cell? ⟨w.heap.size, 1, none⟩ = some (.slice B m k) := D0_7.out.cell (i := 1) rfl
  go_wp2_with fail
  clear lw8 lw9
  refine (HPa.out _ Da_7.out).mono ?_
  rintro e w10 ⟨A2, c2, X, rfl, hpt, hX, hb10⟩
  have HX := Lib.hid hX
  clear hX
  have Da_11 := Lib.hid (Da_7.out.bl hb10)
  have D0_11 := Lib.hid (D0_7.out.bl hb10)
  have Bel_11 := Lib.hid (bel_bl Bel_7.out hb10)
  clear Da_7 D0_7 Bel_7
  clear hb10
  have R_11 := Lib.hid hpt
  clear hpt
  have HD5 := Lib.hid (Da_11.out)
  have HX5 := Lib.hid (D0_11.out)
  have HR5 := Lib.hid (R_11.out)
  have HB5 := Lib.hid (Bel_11.out)
  clear Da_11 D0_11 R_11 Bel_11
  go_wp2
  go_loopw [5, 7] (fun sn si wr => ∃ i t : Nat, i ≤ cc ∧ si = .int .i64 i ∧ sn = .int .i64 t ∧ RowKit.Hid (sumL ((partsF Vs).take i) = t) ∧ t ≤ i * 24 ∧ RowKit.Hid (Below w10.heap.size w10 wr)) (fun _ si _ => cc - (intOf si).toNat)
  case atStart => exact ⟨0, 0, by omega, rfl, rfl, Lib.hid rfl, by omega, Lib.hid (Below.refl _ _)⟩
  case round =>
    obtain ⟨i, t, hi, rfl, rfl, HS, ht, HBo⟩ := hrel
    obtain ⟨wo, gwo⟩ : ∃ z, wr = z := ⟨_, rfl⟩
    rw [gwo] at HBo ⊢
    clear gwo
    by_cases hic : i < cc
    · obtain ⟨x, hx⟩ : ∃ x, X[i]? = some x := ⟨_, List.getElem?_eq_getElem (by have := HR5.out.len; omega)⟩
      have hpx : (partsF Vs)[i]? = some x.2.2 := by rw [← HX.out, List.getElem?_map, hx]; rfl
      obtain ⟨g2, junk2, eA2, hg2, hw2, hc2, hf2, -⟩ := own_poke (i := 0) (y := x) (u := rwV x) rwC_len HR5.out.row hx hic (by decide) rfl
      subst eA2
      simp only [Nat.mul_one, Nat.add_zero] at hc2
      replace hc2 : w10.cell? ⟨g2, i, none⟩ = some (rwV x) := hc2
      have HCx : RowKit.Hid (∀ W, Below w10.heap.size w10 W → W.cell? ⟨g2, i, none⟩ = some (rwV x)) := Lib.hid (fun W hb => (hb.cell (p := ⟨g2, i, none⟩) (World.block_lt_of_cell? _ _ hc2)).trans hc2)
      have hxl : x.2.2.length ≤ 24 := by
        have h1 : x.2.2 ∈ partsF Vs := List.mem_of_getElem? hpx
        rw [partsF, partsJ] at h1
        obtain ⟨r, _, e⟩ := List.mem_map.1 h1
        rw [← e]
        have := partJ_len (labF Vs) (nmV Vs) Vs.length r
        have := Hlv.out
        omega
      have hst := sum_take _ _ _ hpx
      rw [HS.out] at hst
      have HS2 := Lib.hid hst
      have Hpx := Lib.hid hpx
      have HRx : RowKit.Hid (∃ lo, w10.ownsRow lo 27 2 (rwV x) x.2.2.length (rowsV idC x.2.2)) := Lib.hid ⟨_, HR5.out.one x (List.mem_of_getElem? hx)⟩
      obtain ⟨xA, xc, xl⟩ := x
      obtain ⟨xn, gxn⟩ : ∃ z, xl.length = z := ⟨_, rfl⟩
      have Hxn := Lib.hid gxn
      replace HCx : RowKit.Hid (∀ W, Below w10.heap.size w10 W → W.cell? ⟨g2, i, none⟩ = some (.slice xA xn xc)) := Lib.hid (fun W hb => by rw [HCx.out W hb, ← gxn]; rfl)
      replace HRx : RowKit.Hid (RdS w10 w10.heap.size 2 xA xn xc (rowsV idC xl)) := Lib.hid (by obtain ⟨lo, h1⟩ := HRx.out; refine own_rds (lo := lo) (T := 27) ?_; rw [← gxn]; exact h1)
      replace HS2 : RowKit.Hid (sumL ((partsF Vs).take (i + 1)) = t + xn) := Lib.hid (by rw [← gxn]; exact HS2.out)
      replace hxl : xn ≤ 24 := by rw [← gxn]; exact hxl
      replace Hpx : RowKit.Hid ((partsF Vs)[i]? = some xl) := Hpx
      have cx := HCx.out _ HBo.out
      have hwt : IntKind.i64.wrap ((t : Int) + (xn : Int)) = ((t + xn : Nat) : Int) := (IntWalk.i64_in _ (by omega)).trans (by omega)
      clear hx hpx hg2 hw2 hc2 hf2 hst gxn HS
      obtain ⟨t2, gt2⟩ : ∃ z, t + xn = z := ⟨_, rfl⟩
      rw [gt2] at hwt HS2
      have ht2 : t2 ≤ (i + 1) * 24 := by omega
      clear gt2
      go_wp2
      clear cx hwt
      go_loopw [8] (fun sk wr => ∃ q : Nat, q ≤ xn ∧ sk = .int .i64 q ∧ RowKit.Hid (Below w10.heap.size w10 wr)) (fun sk _ => xn - (intOf sk).toNat)
      case atStart => exact ⟨0, by omega, rfl, HBo⟩
      case round =>
        clear HBo
        obtain ⟨q, hq, rfl, HBi⟩ := hrel
        obtain ⟨wi, gwi⟩ : ∃ z, wr = z := ⟨_, rfl⟩
        rw [gwi] at HBi ⊢
        clear gwi
        have cx := HCx.out _ HBi.out
        by_cases hqx : q < xn
        · obtain ⟨y, hy⟩ : ∃ y, xl[q]? = some y := ⟨_, List.getElem?_eq_getElem (by have := Hxn.out; omega)⟩
          obtain ⟨z, hz⟩ : ∃ z, xl[0]? = some z := ⟨_, List.getElem?_eq_getElem (by have := Hxn.out; omega)⟩
          obtain ⟨px, hp0⟩ : ∃ px, (partsF Vs)[0]? = some px := ⟨_, List.getElem?_eq_getElem (by have := HPl.out; omega)⟩
          obtain ⟨r0, _, ⟨u, hu⟩, _⟩ := part_row hnd hp0
          have ht1 := part_tog hnd Hpx.out hz hy
          have ht0 : 0 < i → togF Vs u y = false := fun h0 => part_not hnd (by omega) hp0 Hpx.out hu hy
          obtain ⟨x0, hx0⟩ : ∃ x0, X[0]? = some x0 := ⟨_, List.getElem?_eq_getElem (by have := HR5.out.len; omega)⟩
          have ex0 : x0.2.2 = px := by
            have h1 : (X.map (·.2.2))[0]? = some px := by rw [HX.out, hp0]
            rw [List.getElem?_map, hx0] at h1
            exact Option.some.inj h1
          obtain ⟨g3, junk3, eA3, -, -, hc3, -, -⟩ := own_poke (i := 0) (y := x0) (u := rwV x0) rwC_len HR5.out.row hx0 (by omega) (by decide) rfl
          obtain rfl : g2 = g3 := by
            injection eA3 with eA3
            injection eA3
          simp only [Nat.zero_mul, Nat.zero_add] at hc3
          replace hc3 : w10.cell? ⟨g2, 0, none⟩ = some (rwV x0) := hc3
          have hr0 := HR5.out.one x0 (List.mem_of_getElem? hx0)
          obtain ⟨bA, bc, bl⟩ := x0
          obtain rfl : bl = px := ex0
          obtain ⟨bn, gbn⟩ : ∃ z, bl.length = z := ⟨_, rfl⟩
          have hbn : 0 < bn := by have := (List.getElem?_eq_some_iff.1 hu).1; omega
          have hc3' : w10.cell? ⟨g2, 0, none⟩ = some (.slice bA bn bc) := by rw [hc3, ← gbn]; rfl
          have hrb : RdS w10 w10.heap.size 2 bA bn bc (rowsV idC bl) := own_rds (by have h1 := hr0; rw [← gbn]; exact h1)
          have hbw := HBi.out
          obtain ⟨b1, f1, rfl, hb1, hpl1⟩ := HRx.out.place idC_len (by decide) (by omega)
          obtain ⟨b2, f2, rfl, hb2, hpl2⟩ := hrb.place idC_len (by decide) (by omega)
          have cellq : ∀ {b f j : Nat} {l : List I2} {y : I2}, b < w10.heap.size → (∀ (j : Nat) (x : I2), l[j]? = some x → ∀ (i : Nat) (v : Value), (idC x)[i]? = some v → w10.cell? ((⟨b, f + j * 2, none⟩ : Addr).add i) = some v) → l[j]? = some y → wi.cell? ⟨b, f + j * 2, none⟩ = some (.int .i64 y.1) ∧ wi.cell? ⟨b, f + j * 2 + 1, none⟩ = some (.int .i64 y.2) := fun {b f j l y} hb hpl hj => by
            have h0 := hpl j y hj 0 _ rfl
            have h1 := hpl j y hj 1 _ rfl
            rw [Addr.add_lit] at h0 h1
            exact ⟨(hbw.cell (p := ⟨b, f + j * 2, none⟩) hb).trans (by simpa using h0), (hbw.cell (p := ⟨b, f + j * 2 + 1, none⟩) hb).trans (by simpa [Nat.add_assoc] using h1)⟩
          obtain ⟨y0, y1⟩ := cellq hb1 (fun j x hj i v hv => by have := hpl1 j x hj i v hv; exact this) hy
          obtain ⟨z0, z1⟩ := cellq hb1 (fun j x hj i v hv => by have := hpl1 j x hj i v hv; exact this) hz
          obtain ⟨u0, u1⟩ := cellq hb2 (fun j x hj i v hv => by have := hpl2 j x hj i v hv; exact this) hu
          simp only [Nat.zero_mul, Nat.add_zero] at z0 z1 u0 u1
          have cx0 := (hbw.cell (p := ⟨g2, 0, none⟩) (World.block_lt_of_cell? _ _ hc3')).trans hc3'
          have HT1 := Lib.hid (HTg.out z.1 z.2 y.1 y.2)
          have HT0 := Lib.hid (HTg.out u.1 u.2 y.1 y.2)
          rw [show togF Vs (z.1, z.2) (y.1, y.2) = true from ht1] at HT1
          obtain ⟨y1_, y2_⟩ := y
          obtain ⟨z1_, z2_⟩ := z
          obtain ⟨u1_, u2_⟩ := u
          have HDi := Lib.hid (HD5.out.bl HBi.out)
          have HXi := Lib.hid (HX5.out.bl HBi.out)
          clear hy hz hp0 hu ht1 hx0 hc3 hr0 hc3' hrb hb1 hb2 hpl1 hpl2 cellq eA3
          have hx0n : 0 < xn := by omega
          have hc0 : 0 < cc := by omega
          by_cases h0 : 0 < i
          · rw [show togF Vs (u1_, u2_) (y1_, y2_) = false from ht0 h0] at HT0
            have h0d : decide ((0 : Int) < (i : Int)) = true := decide_eq_true (by omega)
            have h0e : decide (0 < i) = true := decide_eq_true h0
            clear ht0
            go_upto_region 14 with fail
            have Da_951 := Lib.hid (HDi.out.dr)
            have D0_951 := Lib.hid (HXi.out.dr)
            have Bel_951 := Lib.hid (bel_dr HBi.out)
            have ld952 : ∀ w', Kept Nil_ wi.drew w' → w'.cell? ⟨w.heap.size, 0, none⟩ = some (.slice A n c) := fun w' h => h.nil_cell (D0_951.out.cell (i := 0) rfl)
            have ld953 : ∀ w', Kept Nil_ wi.drew w' → w'.cell? ⟨w.heap.size, 1, none⟩ = some (.slice B m k) := fun w' h => h.nil_cell (D0_951.out.cell (i := 1) rfl)
            have ld954 : ∀ w', Kept Nil_ wi.drew w' → w'.cell? ⟨g2, i, none⟩ = some (.slice (some ⟨b1, f1, none⟩) xn xc) := fun w' h => h.nil_cell ((show wi.drew.cell? _ = _ from cx))
            have ld955 : ∀ w', Kept Nil_ wi.drew w' → w'.cell? ⟨b1, f1, none⟩ = some (.int .i64 z1_) := fun w' h => h.nil_cell ((show wi.drew.cell? _ = _ from z0))
            have ld956 : ∀ w', Kept Nil_ wi.drew w' → w'.cell? ⟨b1, f1 + 1, none⟩ = some (.int .i64 z2_) := fun w' h => h.nil_cell ((show wi.drew.cell? _ = _ from z1))
            have ld957 : ∀ w', Kept Nil_ wi.drew w' → w'.cell? ⟨b1, f1 + q * 2, none⟩ = some (.int .i64 y1_) := fun w' h => h.nil_cell ((show wi.drew.cell? _ = _ from y0))
            have ld958 : ∀ w', Kept Nil_ wi.drew w' → w'.cell? ⟨b1, f1 + q * 2 + 1, none⟩ = some (.int .i64 y2_) := fun w' h => h.nil_cell ((show wi.drew.cell? _ = _ from y1))
            have ld959 : ∀ w', Kept Nil_ wi.drew w' → w'.cell? ⟨g2, 0, none⟩ = some (.slice (some ⟨b2, f2, none⟩) bn bc) := fun w' h => h.nil_cell ((show wi.drew.cell? _ = _ from cx0))
            have ld960 : ∀ w', Kept Nil_ wi.drew w' → w'.cell? ⟨b2, f2, none⟩ = some (.int .i64 u1_) := fun w' h => h.nil_cell ((show wi.drew.cell? _ = _ from u0))
            have ld961 : ∀ w', Kept Nil_ wi.drew w' → w'.cell? ⟨b2, f2 + 1, none⟩ = some (.int .i64 u2_) := fun w' h => h.nil_cell ((show wi.drew.cell? _ = _ from u1))
            refine wp_region_reg Nil_ (by kernel_rfl) ?_
            apply wpR_next 0 (some 45)
            · simp only [List.getElem?_toArray, List.getElem?_cons_succ, List.getElem?_cons_zero]; exact rfl
            · rfl
            · kernel_rfl
            · kernel_rfl
            · kernel_rfl
            · exact fun _ _ _ _ h => h
            apply Exists.intro
            apply And.intro
            · apply yr_run; rfl; intro w' hw'; go_simp; (try with_reducible rfl)
            simp only [Act.put, List.setIfInBounds_toArray, List.set_cons_zero, List.set_cons_succ]
            apply wpR_next 1 (some 46)
            · simp only [List.getElem?_toArray, List.getElem?_cons_succ, List.getElem?_cons_zero]; exact rfl
            · rfl
            · kernel_rfl
            · kernel_rfl
            · kernel_rfl
            · exact fun _ _ _ _ h => h
            apply Exists.intro
            apply And.intro
            · apply yr_run; rfl; intro w' hw'; go_simp; (try with_reducible rfl)
            simp only [Act.put, List.setIfInBounds_toArray, List.set_cons_zero, List.set_cons_succ]
            apply wpR_next 2 (some 47)
            · simp only [List.getElem?_toArray, List.getElem?_cons_succ, List.getElem?_cons_zero]; exact rfl
            · rfl
            · kernel_rfl
            · kernel_rfl
            · kernel_rfl
            · exact fun _ _ _ _ h => h
            apply Exists.intro
            apply And.intro
            · apply yr_run; rfl; intro w' hw'; go_simp; (try with_reducible rfl)
            simp only [Act.put, List.setIfInBounds_toArray, List.set_cons_zero, List.set_cons_succ]
            apply wpR_next 3 (some 48)
            · simp only [List.getElem?_toArray, List.getElem?_cons_succ, List.getElem?_cons_zero]; exact rfl
            · rfl
            · kernel_rfl
            · kernel_rfl
            · kernel_rfl
            · exact fun _ _ _ _ h => h
            apply Exists.intro
            apply And.intro
            · apply yr_run; rfl; intro w' hw'; go_simp; (try with_reducible rfl)
            simp only [Act.put, List.setIfInBounds_toArray, List.set_cons_zero, List.set_cons_succ]
            apply wpR_next 4 (some 49)
            · simp only [List.getElem?_toArray, List.getElem?_cons_succ, List.getElem?_cons_zero]; exact rfl
            · rfl
            · kernel_rfl
            · kernel_rfl
            · kernel_rfl
            · exact fun _ _ _ _ h => h
            apply Exists.intro
            apply And.intro
            · apply yr_run; rfl; intro w' hw'; go_simp; (try with_reducible rfl)
            simp only [Act.put, List.setIfInBounds_toArray, List.set_cons_zero, List.set_cons_succ]
            apply wpR_next 5 (some 50)
            · simp only [List.getElem?_toArray, List.getElem?_cons_succ, List.getElem?_cons_zero]; exact rfl
            · rfl
            · kernel_rfl
            · kernel_rfl
            · kernel_rfl
            · exact fun _ _ _ _ h => h
            apply Exists.intro
            apply And.intro
            · apply yr_run; rfl; intro w' hw'; go_simp; (try with_reducible rfl)
            simp only [Act.put, List.setIfInBounds_toArray, List.set_cons_zero, List.set_cons_succ]
            apply wpR_next 6 (some 51)
            · simp only [List.getElem?_toArray, List.getElem?_cons_succ, List.getElem?_cons_zero]; exact rfl
            · rfl
            · kernel_rfl
            · kernel_rfl
            · kernel_rfl
            · exact fun _ _ _ _ h => h
            apply Exists.intro
            apply And.intro
            · apply yr_run; rfl; intro w' hw'; go_simp; (try with_reducible rfl)
            simp only [Act.put, List.setIfInBounds_toArray, List.set_cons_zero, List.set_cons_succ]
            apply wpR_next 7 (some 52)
            · simp only [List.getElem?_toArray, List.getElem?_cons_succ, List.getElem?_cons_zero]; exact rfl
            · rfl
            · kernel_rfl
            · kernel_rfl
            · kernel_rfl
            · exact fun _ _ _ _ h => h
            apply Exists.intro
            apply And.intro
            · apply yr_run; rfl; intro w' hw'; go_simp; (try with_reducible rfl)
            simp only [Act.put, List.setIfInBounds_toArray, List.set_cons_zero, List.set_cons_succ]
            apply wpR_next 8 (some 53)
            · simp only [List.getElem?_toArray, List.getElem?_cons_succ, List.getElem?_cons_zero]; exact rfl
            · rfl
            · kernel_rfl
            · kernel_rfl
            · kernel_rfl
            · exact fun _ _ _ _ h => h
            apply Exists.intro
            apply And.intro
            · apply yr_run; rfl; intro w' hw'; go_simp; (try with_reducible rfl)
            simp only [Act.put, List.setIfInBounds_toArray, List.set_cons_zero, List.set_cons_succ]
            apply wpR_next 9 (some 54)
            · simp only [List.getElem?_toArray, List.getElem?_cons_succ, List.getElem?_cons_zero]; exact rfl
            · rfl
            · kernel_rfl
            · kernel_rfl
            · kernel_rfl
            · exact fun _ _ _ _ h => h
            apply Exists.intro
            apply And.intro
            · apply yr_run; rfl; intro w' hw'; go_simp; (try with_reducible rfl)
            simp only [Act.put, List.setIfInBounds_toArray, List.set_cons_zero, List.set_cons_succ]
            apply wpR_next 10 (some 55)
            · simp only [List.getElem?_toArray, List.getElem?_cons_succ, List.getElem?_cons_zero]; exact rfl
            · rfl
            · kernel_rfl
            · kernel_rfl
            · kernel_rfl
            · exact fun _ _ _ _ h => h
            apply Exists.intro
            apply And.intro
            · apply yr_run; rfl; intro w' hw'; go_simp; (try with_reducible rfl)
            simp only [Act.put, List.setIfInBounds_toArray, List.set_cons_zero, List.set_cons_succ]
            apply wpR_next 11 (some 56)
            · simp only [List.getElem?_toArray, List.getElem?_cons_succ, List.getElem?_cons_zero]; exact rfl
            · rfl
            · kernel_rfl
            · kernel_rfl
            · kernel_rfl
            · exact fun _ _ _ _ h => h
            apply Exists.intro
            apply And.intro
            · apply yr_run; rfl; intro w' hw'; go_simp; (try with_reducible rfl)
            simp only [Act.put, List.setIfInBounds_toArray, List.set_cons_zero, List.set_cons_succ]
            apply wpR_next 12 (some 57)
            · simp only [List.getElem?_toArray, List.getElem?_cons_succ, List.getElem?_cons_zero]; exact rfl
            · rfl
            · kernel_rfl
            · kernel_rfl
            · kernel_rfl
            · exact fun _ _ _ _ h => h
            apply Exists.intro
            apply And.intro
            · apply yr_run; rfl; intro w' hw'; go_simp; (try with_reducible rfl)
            simp only [Act.put, List.setIfInBounds_toArray, List.set_cons_zero, List.set_cons_succ]
            apply wpR_next 13 (some 58)
            · simp only [List.getElem?_toArray, List.getElem?_cons_succ, List.getElem?_cons_zero]; exact rfl
            · rfl
            · kernel_rfl
            · kernel_rfl
            · kernel_rfl
            · exact fun _ _ _ _ h => h
            apply Exists.intro
            apply And.intro
            · apply yr_run; rfl; intro w' hw'; go_simp; (try with_reducible rfl)
            simp only [Act.put, List.setIfInBounds_toArray, List.set_cons_zero, List.set_cons_succ]
            apply wpR_call 14 (some 59)
            · simp only [List.getElem?_toArray, List.getElem?_cons_succ, List.getElem?_cons_zero]; exact rfl
            · rfl
            · kernel_rfl
            · rfl
            · intro w'; go_simp; first | done | exact ⟨rfl, rfl⟩ | with_reducible rfl
            intro w' hw'
            refine (HT1.out _ (Da_951.out.bl hw')).mono ?_
            rintro e w962 ⟨rfl, hb962⟩
            have Da_962 := Lib.hid ((Da_951.out.bl hw').bl hb962)
            have D0_962 := Lib.hid ((D0_951.out.bl hw').bl hb962)
            have Bel_962 := Lib.hid (bel_bl (bel_bl Bel_951.out hw') hb962)
            have ld963 := fun w'' (h : Kept Nil_ w962 w'') => ld952 w'' ((Kept.of_ext hw').trans ((Kept.of_below hb962).trans h))
            have ld964 := fun w'' (h : Kept Nil_ w962 w'') => ld953 w'' ((Kept.of_ext hw').trans ((Kept.of_below hb962).trans h))
            have ld965 := fun w'' (h : Kept Nil_ w962 w'') => ld954 w'' ((Kept.of_ext hw').trans ((Kept.of_below hb962).trans h))
            have ld966 := fun w'' (h : Kept Nil_ w962 w'') => ld955 w'' ((Kept.of_ext hw').trans ((Kept.of_below hb962).trans h))
            have ld967 := fun w'' (h : Kept Nil_ w962 w'') => ld956 w'' ((Kept.of_ext hw').trans ((Kept.of_below hb962).trans h))
            have ld968 := fun w'' (h : Kept Nil_ w962 w'') => ld957 w'' ((Kept.of_ext hw').trans ((Kept.of_below hb962).trans h))
            have ld969 := fun w'' (h : Kept Nil_ w962 w'') => ld958 w'' ((Kept.of_ext hw').trans ((Kept.of_below hb962).trans h))
            have ld970 := fun w'' (h : Kept Nil_ w962 w'') => ld959 w'' ((Kept.of_ext hw').trans ((Kept.of_below hb962).trans h))
            have ld971 := fun w'' (h : Kept Nil_ w962 w'') => ld960 w'' ((Kept.of_ext hw').trans ((Kept.of_below hb962).trans h))
            have ld972 := fun w'' (h : Kept Nil_ w962 w'') => ld961 w'' ((Kept.of_ext hw').trans ((Kept.of_below hb962).trans h))
            refine ⟨_, rfl, Kept.of_below hb962, ?_⟩
            clear hw' hb962
            simp only [Act.put, List.setIfInBounds_toArray, List.set_cons_zero, List.set_cons_succ]
            apply wpR_next 15 (some 60)
            · simp only [List.getElem?_toArray, List.getElem?_cons_succ, List.getElem?_cons_zero]; exact rfl
            · rfl
            · kernel_rfl
            · kernel_rfl
            · kernel_rfl
            · exact fun _ _ _ _ h => h
            apply Exists.intro
            apply And.intro
            · apply yr_run; rfl; intro w' hw'; go_simp; (try with_reducible rfl)
            simp only [Act.put, List.setIfInBounds_toArray, List.set_cons_zero, List.set_cons_succ]
            apply wpR_next 16 (some 61)
            · simp only [List.getElem?_toArray, List.getElem?_cons_succ, List.getElem?_cons_zero]; exact rfl
            · rfl
            · kernel_rfl
            · kernel_rfl
            · kernel_rfl
            · exact fun _ _ _ _ h => h
            apply Exists.intro
            apply And.intro
            · apply yr_run; rfl; intro w' hw'; go_simp; (try with_reducible rfl)
            simp only [Act.put, List.setIfInBounds_toArray, List.set_cons_zero, List.set_cons_succ]
            apply wpR_next 17 (some 62)
            · simp only [List.getElem?_toArray, List.getElem?_cons_succ, List.getElem?_cons_zero]; exact rfl
            · rfl
            · kernel_rfl
            · kernel_rfl
            · kernel_rfl
            · exact fun _ _ _ _ h => h
            apply Exists.intro
            apply And.intro
            · apply yr_run; rfl; intro w' hw'; go_simp; (try with_reducible rfl)
            simp only [Act.put, List.setIfInBounds_toArray, List.set_cons_zero, List.set_cons_succ]
            apply wpR_next 18 (some 63)
            · simp only [List.getElem?_toArray, List.getElem?_cons_succ, List.getElem?_cons_zero]; exact rfl
            · rfl
            · kernel_rfl
            · kernel_rfl
            · kernel_rfl
            · exact fun _ _ _ _ h => h
            apply Exists.intro
            apply And.intro
            · apply yr_run; rfl; intro w' hw'; go_simp; (try with_reducible rfl)
            simp only [Act.put, List.setIfInBounds_toArray, List.set_cons_zero, List.set_cons_succ]
            apply wpR_next 19 (some 64)
            · simp only [List.getElem?_toArray, List.getElem?_cons_succ, List.getElem?_cons_zero]; exact rfl
            · rfl
            · kernel_rfl
            · kernel_rfl
            · kernel_rfl
            · exact fun _ _ _ _ h => h
            apply Exists.intro
            apply And.intro
            · apply yr_run; rfl; intro w' hw'; go_simp; (try with_reducible rfl)
            simp only [Act.put, List.setIfInBounds_toArray, List.set_cons_zero, List.set_cons_succ]
            apply wpR_next 20 (some 65)
            · simp only [List.getElem?_toArray, List.getElem?_cons_succ, List.getElem?_cons_zero]; exact rfl
            · rfl
            · kernel_rfl
            · kernel_rfl
            · kernel_rfl
            · exact fun _ _ _ _ h => h
            apply Exists.intro
            apply And.intro
            · apply yr_run; rfl; intro w' hw'; go_simp; (try with_reducible rfl)
            simp only [Act.put, List.setIfInBounds_toArray, List.set_cons_zero, List.set_cons_succ]
            apply wpR_next 21 (some 66)
            · simp only [List.getElem?_toArray, List.getElem?_cons_succ, List.getElem?_cons_zero]; exact rfl
            · rfl
            · kernel_rfl
            · kernel_rfl
            · kernel_rfl
            · exact fun _ _ _ _ h => h
            apply Exists.intro
            apply And.intro
            · apply yr_run; rfl; intro w' hw'; go_simp; (try with_reducible rfl)
            simp only [Act.put, List.setIfInBounds_toArray, List.set_cons_zero, List.set_cons_succ]
            apply wpR_next 22 (some 67)
            · simp only [List.getElem?_toArray, List.getElem?_cons_succ, List.getElem?_cons_zero]; exact rfl
            · rfl
            · kernel_rfl
            · kernel_rfl
            · kernel_rfl
            · exact fun _ _ _ _ h => h
            apply Exists.intro
            apply And.intro
            · apply yr_run; rfl; intro w' hw'; go_simp; (try with_reducible rfl)
            simp only [Act.put, List.setIfInBounds_toArray, List.set_cons_zero, List.set_cons_succ]
            apply wpR_next 23 (some 68)
            · simp only [List.getElem?_toArray, List.getElem?_cons_succ, List.getElem?_cons_zero]; exact rfl
            · rfl
            · kernel_rfl
            · kernel_rfl
            · kernel_rfl
            · exact fun _ _ _ _ h => h
            apply Exists.intro
            apply And.intro
            · apply yr_run; rfl; intro w' hw'; go_simp; (try with_reducible rfl)
            simp only [Act.put, List.setIfInBounds_toArray, List.set_cons_zero, List.set_cons_succ]
            apply wpR_next 24 (some 69)
            · simp only [List.getElem?_toArray, List.getElem?_cons_succ, List.getElem?_cons_zero]; exact rfl
            · rfl
            · kernel_rfl
            · kernel_rfl
            · kernel_rfl
            · exact fun _ _ _ _ h => h
            apply Exists.intro
            apply And.intro
            · apply yr_run; rfl; intro w' hw'; go_simp; (try with_reducible rfl)
            simp only [Act.put, List.setIfInBounds_toArray, List.set_cons_zero, List.set_cons_succ]
            apply wpR_next 25 (some 70)
            · simp only [List.getElem?_toArray, List.getElem?_cons_succ, List.getElem?_cons_zero]; exact rfl
            · rfl
            · kernel_rfl
            · kernel_rfl
            · kernel_rfl
            · exact fun _ _ _ _ h => h
            apply Exists.intro
            apply And.intro
            · apply yr_run; rfl; intro w' hw'; go_simp; (try with_reducible rfl)
            simp only [Act.put, List.setIfInBounds_toArray, List.set_cons_zero, List.set_cons_succ]
            apply wpR_next 26 (some 71)
            · simp only [List.getElem?_toArray, List.getElem?_cons_succ, List.getElem?_cons_zero]; exact rfl
            · rfl
            · kernel_rfl
            · kernel_rfl
            · kernel_rfl
            · exact fun _ _ _ _ h => h
            apply Exists.intro
            apply And.intro
            · apply yr_run; rfl; intro w' hw'; go_simp; (try with_reducible rfl)
            simp only [Act.put, List.setIfInBounds_toArray, List.set_cons_zero, List.set_cons_succ]
            apply wpR_next 27 (some 72)
            · simp only [List.getElem?_toArray, List.getElem?_cons_succ, List.getElem?_cons_zero]; exact rfl
            · rfl
            · kernel_rfl
            · kernel_rfl
            · kernel_rfl
            · exact fun _ _ _ _ h => h
            apply Exists.intro
            apply And.intro
            · apply yr_run; rfl; intro w' hw'; go_simp; (try with_reducible rfl)
            simp only [Act.put, List.setIfInBounds_toArray, List.set_cons_zero, List.set_cons_succ]
            apply wpR_next 28 (some 73)
            · simp only [List.getElem?_toArray, List.getElem?_cons_succ, List.getElem?_cons_zero]; exact rfl
            · rfl
            · kernel_rfl
            · kernel_rfl
            · kernel_rfl
            · exact fun _ _ _ _ h => h
            apply Exists.intro
            apply And.intro
            · apply yr_run; rfl; intro w' hw'; go_simp; (try with_reducible rfl)
            simp only [Act.put, List.setIfInBounds_toArray, List.set_cons_zero, List.set_cons_succ]
            apply wpR_next 29 (some 74)
            · simp only [List.getElem?_toArray, List.getElem?_cons_succ, List.getElem?_cons_zero]; exact rfl
            · rfl
            · kernel_rfl
            · kernel_rfl
            · kernel_rfl
            · exact fun _ _ _ _ h => h
            apply Exists.intro
            apply And.intro
            · apply yr_run; rfl; intro w' hw'; go_simp; (try with_reducible rfl)
            simp only [Act.put, List.setIfInBounds_toArray, List.set_cons_zero, List.set_cons_succ]
            apply wpR_next 30 (some 75)
            · simp only [List.getElem?_toArray, List.getElem?_cons_succ, List.getElem?_cons_zero]; exact rfl
            · rfl
            · kernel_rfl
            · kernel_rfl
            · kernel_rfl
            · exact fun _ _ _ _ h => h
            apply Exists.intro
            apply And.intro
            · apply yr_run; rfl; intro w' hw'; go_simp; (try with_reducible rfl)
            simp only [Act.put, List.setIfInBounds_toArray, List.set_cons_zero, List.set_cons_succ]
            apply wpR_next 31 (some 76)
            · simp only [List.getElem?_toArray, List.getElem?_cons_succ, List.getElem?_cons_zero]; exact rfl
            · rfl
            · kernel_rfl
            · kernel_rfl
            · kernel_rfl
            · exact fun _ _ _ _ h => h
            apply Exists.intro
            apply And.intro
            · apply yr_run; rfl; intro w' hw'; go_simp; (try with_reducible rfl)
            simp only [Act.put, List.setIfInBounds_toArray, List.set_cons_zero, List.set_cons_succ]
            apply wpR_next 32 (some 77)
            · simp only [List.getElem?_toArray, List.getElem?_cons_succ, List.getElem?_cons_zero]; exact rfl
            · rfl
            · kernel_rfl
            · kernel_rfl
            · kernel_rfl
            · exact fun _ _ _ _ h => h
            apply Exists.intro
            apply And.intro
            · apply yr_run; rfl; intro w' hw'; go_simp; (try with_reducible rfl)
            simp only [Act.put, List.setIfInBounds_toArray, List.set_cons_zero, List.set_cons_succ]
            apply wpR_call 33 (some 78)
            · simp only [List.getElem?_toArray, List.getElem?_cons_succ, List.getElem?_cons_zero]; exact rfl
            · rfl
            · kernel_rfl
            · rfl
            · intro w'; go_simp; first | done | exact ⟨rfl, rfl⟩ | with_reducible rfl
            intro w' hw'
            refine (HT0.out _ (Da_962.out.bl hw')).mono ?_
            rintro e w973 ⟨rfl, hb973⟩
            have Da_973 := Lib.hid ((Da_962.out.bl hw').bl hb973)
            have D0_973 := Lib.hid ((D0_962.out.bl hw').bl hb973)
            have Bel_973 := Lib.hid (bel_bl (bel_bl Bel_962.out hw') hb973)
            have ld974 := fun w'' (h : Kept Nil_ w973 w'') => ld963 w'' ((Kept.of_ext hw').trans ((Kept.of_below hb973).trans h))
            have ld975 := fun w'' (h : Kept Nil_ w973 w'') => ld964 w'' ((Kept.of_ext hw').trans ((Kept.of_below hb973).trans h))
            have ld976 := fun w'' (h : Kept Nil_ w973 w'') => ld965 w'' ((Kept.of_ext hw').trans ((Kept.of_below hb973).trans h))
            have ld977 := fun w'' (h : Kept Nil_ w973 w'') => ld966 w'' ((Kept.of_ext hw').trans ((Kept.of_below hb973).trans h))
            have ld978 := fun w'' (h : Kept Nil_ w973 w'') => ld967 w'' ((Kept.of_ext hw').trans ((Kept.of_below hb973).trans h))
            have ld979 := fun w'' (h : Kept Nil_ w973 w'') => ld968 w'' ((Kept.of_ext hw').trans ((Kept.of_below hb973).trans h))
            have ld980 := fun w'' (h : Kept Nil_ w973 w'') => ld969 w'' ((Kept.of_ext hw').trans ((Kept.of_below hb973).trans h))
            have ld981 := fun w'' (h : Kept Nil_ w973 w'') => ld970 w'' ((Kept.of_ext hw').trans ((Kept.of_below hb973).trans h))
            have ld982 := fun w'' (h : Kept Nil_ w973 w'') => ld971 w'' ((Kept.of_ext hw').trans ((Kept.of_below hb973).trans h))
            have ld983 := fun w'' (h : Kept Nil_ w973 w'') => ld972 w'' ((Kept.of_ext hw').trans ((Kept.of_below hb973).trans h))
            refine ⟨_, rfl, Kept.of_below hb973, ?_⟩
            clear hw' hb973
            simp only [Act.put, List.setIfInBounds_toArray, List.set_cons_zero, List.set_cons_succ]
            apply wpR_next 34 (some 79)
            · simp only [List.getElem?_toArray, List.getElem?_cons_succ, List.getElem?_cons_zero]; exact rfl
            · rfl
            · kernel_rfl
            · kernel_rfl
            · kernel_rfl
            · exact fun _ _ _ _ h => h
            apply Exists.intro
            apply And.intro
            · apply yr_run; rfl; intro w' hw'; go_simp; (try with_reducible rfl)
            simp only [Act.put, List.setIfInBounds_toArray, List.set_cons_zero, List.set_cons_succ]
            apply wpR_next 35 (some 80)
            · simp only [List.getElem?_toArray, List.getElem?_cons_succ, List.getElem?_cons_zero]; exact rfl
            · rfl
            · kernel_rfl
            · kernel_rfl
            · kernel_rfl
            · exact fun _ _ _ _ h => h
            apply Exists.intro
            apply And.intro
            · apply yr_run; rfl; intro w' hw'; go_simp; (try with_reducible rfl)
            simp only [Act.put, List.setIfInBounds_toArray, List.set_cons_zero, List.set_cons_succ]
            refine wpR_done (by kernel_rfl) ?_ _
            intro w984 hw'
            have Da_985 := Lib.hid (Da_973.out.bl hw')
            have D0_985 := Lib.hid (D0_973.out.bl hw')
            have Bel_985 := Lib.hid (bel_bl Bel_973.out hw')
            clear Da_973 D0_973 Bel_973
            clear hw'
            have HBn := Lib.hid (Bel_985.out)
            clear Da_985 D0_985 Bel_985 cx cx0 y0 y1 z0 z1 u0 u1
            go_wp2
            go_roundw
            case rel => exact ⟨q + 1, by omega, by go_num, HBn⟩
            case measure => simp [intOf] <;> omega
          · have h0d : decide ((0 : Int) < (i : Int)) = false := decide_eq_false (by omega)
            have h0e : decide (0 < i) = false := decide_eq_false h0
            clear ht0 HT0
            go_upto_region 14 with fail
            have Da_951 := Lib.hid (HDi.out.dr)
            have D0_951 := Lib.hid (HXi.out.dr)
            have Bel_951 := Lib.hid (bel_dr HBi.out)
            have ld952 : ∀ w', Kept Nil_ wi.drew w' → w'.cell? ⟨w.heap.size, 0, none⟩ = some (.slice A n c) := fun w' h => h.nil_cell (D0_951.out.cell (i := 0) rfl)
            have ld953 : ∀ w', Kept Nil_ wi.drew w' → w'.cell? ⟨w.heap.size, 1, none⟩ = some (.slice B m k) := fun w' h => h.nil_cell (D0_951.out.cell (i := 1) rfl)
            have ld954 : ∀ w', Kept Nil_ wi.drew w' → w'.cell? ⟨g2, i, none⟩ = some (.slice (some ⟨b1, f1, none⟩) xn xc) := fun w' h => h.nil_cell ((show wi.drew.cell? _ = _ from cx))
            have ld955 : ∀ w', Kept Nil_ wi.drew w' → w'.cell? ⟨b1, f1, none⟩ = some (.int .i64 z1_) := fun w' h => h.nil_cell ((show wi.drew.cell? _ = _ from z0))
            have ld956 : ∀ w', Kept Nil_ wi.drew w' → w'.cell? ⟨b1, f1 + 1, none⟩ = some (.int .i64 z2_) := fun w' h => h.nil_cell ((show wi.drew.cell? _ = _ from z1))
            have ld957 : ∀ w', Kept Nil_ wi.drew w' → w'.cell? ⟨b1, f1 + q * 2, none⟩ = some (.int .i64 y1_) := fun w' h => h.nil_cell ((show wi.drew.cell? _ = _ from y0))
            have ld958 : ∀ w', Kept Nil_ wi.drew w' → w'.cell? ⟨b1, f1 + q * 2 + 1, none⟩ = some (.int .i64 y2_) := fun w' h => h.nil_cell ((show wi.drew.cell? _ = _ from y1))
            refine wp_region_reg Nil_ (by kernel_rfl) ?_
            apply wpR_next 0 (some 45)
            · simp only [List.getElem?_toArray, List.getElem?_cons_succ, List.getElem?_cons_zero]; exact rfl
            · rfl
            · kernel_rfl
            · kernel_rfl
            · kernel_rfl
            · exact fun _ _ _ _ h => h
            apply Exists.intro
            apply And.intro
            · apply yr_run; rfl; intro w' hw'; go_simp; (try with_reducible rfl)
            simp only [Act.put, List.setIfInBounds_toArray, List.set_cons_zero, List.set_cons_succ]
            apply wpR_next 1 (some 46)
            · simp only [List.getElem?_toArray, List.getElem?_cons_succ, List.getElem?_cons_zero]; exact rfl
            · rfl
            · kernel_rfl
            · kernel_rfl
            · kernel_rfl
            · exact fun _ _ _ _ h => h
            apply Exists.intro
            apply And.intro
            · apply yr_run; rfl; intro w' hw'; go_simp; (try with_reducible rfl)
            simp only [Act.put, List.setIfInBounds_toArray, List.set_cons_zero, List.set_cons_succ]
            apply wpR_next 2 (some 47)
            · simp only [List.getElem?_toArray, List.getElem?_cons_succ, List.getElem?_cons_zero]; exact rfl
            · rfl
            · kernel_rfl
            · kernel_rfl
            · kernel_rfl
            · exact fun _ _ _ _ h => h
            apply Exists.intro
            apply And.intro
            · apply yr_run; rfl; intro w' hw'; go_simp; (try with_reducible rfl)
            simp only [Act.put, List.setIfInBounds_toArray, List.set_cons_zero, List.set_cons_succ]
            apply wpR_next 3 (some 48)
            · simp only [List.getElem?_toArray, List.getElem?_cons_succ, List.getElem?_cons_zero]; exact rfl
            · rfl
            · kernel_rfl
            · kernel_rfl
            · kernel_rfl
            · exact fun _ _ _ _ h => h
            apply Exists.intro
            apply And.intro
            · apply yr_run; rfl; intro w' hw'; go_simp; (try with_reducible rfl)
            simp only [Act.put, List.setIfInBounds_toArray, List.set_cons_zero, List.set_cons_succ]
            apply wpR_next 4 (some 49)
            · simp only [List.getElem?_toArray, List.getElem?_cons_succ, List.getElem?_cons_zero]; exact rfl
            · rfl
            · kernel_rfl
            · kernel_rfl
            · kernel_rfl
            · exact fun _ _ _ _ h => h
            apply Exists.intro
            apply And.intro
            · apply yr_run; rfl; intro w' hw'; go_simp; (try with_reducible rfl)
            simp only [Act.put, List.setIfInBounds_toArray, List.set_cons_zero, List.set_cons_succ]
            apply wpR_next 5 (some 50)
            · simp only [List.getElem?_toArray, List.getElem?_cons_succ, List.getElem?_cons_zero]; exact rfl
            · rfl
            · kernel_rfl
            · kernel_rfl
            · kernel_rfl
            · exact fun _ _ _ _ h => h
            apply Exists.intro
            apply And.intro
            · apply yr_run; rfl; intro w' hw'; go_simp; (try with_reducible rfl)
            simp only [Act.put, List.setIfInBounds_toArray, List.set_cons_zero, List.set_cons_succ]
            apply wpR_next 6 (some 51)
            · simp only [List.getElem?_toArray, List.getElem?_cons_succ, List.getElem?_cons_zero]; exact rfl
            · rfl
            · kernel_rfl
            · kernel_rfl
            · kernel_rfl
            · exact fun _ _ _ _ h => h
            apply Exists.intro
            apply And.intro
            · apply yr_run; rfl; intro w' hw'; go_simp; (try with_reducible rfl)
            simp only [Act.put, List.setIfInBounds_toArray, List.set_cons_zero, List.set_cons_succ]
            apply wpR_next 7 (some 52)
            · simp only [List.getElem?_toArray, List.getElem?_cons_succ, List.getElem?_cons_zero]; exact rfl
            · rfl
            · kernel_rfl
            · kernel_rfl
            · kernel_rfl
            · exact fun _ _ _ _ h => h
            apply Exists.intro
            apply And.intro
            · apply yr_run; rfl; intro w' hw'; go_simp; (try with_reducible rfl)
            simp only [Act.put, List.setIfInBounds_toArray, List.set_cons_zero, List.set_cons_succ]
            apply wpR_next 8 (some 53)
            · simp only [List.getElem?_toArray, List.getElem?_cons_succ, List.getElem?_cons_zero]; exact rfl
            · rfl
            · kernel_rfl
            · kernel_rfl
            · kernel_rfl
            · exact fun _ _ _ _ h => h
            apply Exists.intro
            apply And.intro
            · apply yr_run; rfl; intro w' hw'; go_simp; (try with_reducible rfl)
            simp only [Act.put, List.setIfInBounds_toArray, List.set_cons_zero, List.set_cons_succ]
            apply wpR_next 9 (some 54)
            · simp only [List.getElem?_toArray, List.getElem?_cons_succ, List.getElem?_cons_zero]; exact rfl
            · rfl
            · kernel_rfl
            · kernel_rfl
            · kernel_rfl
            · exact fun _ _ _ _ h => h
            apply Exists.intro
            apply And.intro
            · apply yr_run; rfl; intro w' hw'; go_simp; (try with_reducible rfl)
            simp only [Act.put, List.setIfInBounds_toArray, List.set_cons_zero, List.set_cons_succ]
            apply wpR_next 10 (some 55)
            · simp only [List.getElem?_toArray, List.getElem?_cons_succ, List.getElem?_cons_zero]; exact rfl
            · rfl
            · kernel_rfl
            · kernel_rfl
            · kernel_rfl
            · exact fun _ _ _ _ h => h
            apply Exists.intro
            apply And.intro
            · apply yr_run; rfl; intro w' hw'; go_simp; (try with_reducible rfl)
            simp only [Act.put, List.setIfInBounds_toArray, List.set_cons_zero, List.set_cons_succ]
            apply wpR_next 11 (some 56)
            · simp only [List.getElem?_toArray, List.getElem?_cons_succ, List.getElem?_cons_zero]; exact rfl
            · rfl
            · kernel_rfl
            · kernel_rfl
            · kernel_rfl
            · exact fun _ _ _ _ h => h
            apply Exists.intro
            apply And.intro
            · apply yr_run; rfl; intro w' hw'; go_simp; (try with_reducible rfl)
            simp only [Act.put, List.setIfInBounds_toArray, List.set_cons_zero, List.set_cons_succ]
            apply wpR_next 12 (some 57)
            · simp only [List.getElem?_toArray, List.getElem?_cons_succ, List.getElem?_cons_zero]; exact rfl
            · rfl
            · kernel_rfl
            · kernel_rfl
            · kernel_rfl
            · exact fun _ _ _ _ h => h
            apply Exists.intro
            apply And.intro
            · apply yr_run; rfl; intro w' hw'; go_simp; (try with_reducible rfl)
            simp only [Act.put, List.setIfInBounds_toArray, List.set_cons_zero, List.set_cons_succ]
            apply wpR_next 13 (some 58)
            · simp only [List.getElem?_toArray, List.getElem?_cons_succ, List.getElem?_cons_zero]; exact rfl
            · rfl
            · kernel_rfl
            · kernel_rfl
            · kernel_rfl
            · exact fun _ _ _ _ h => h
            apply Exists.intro
            apply And.intro
            · apply yr_run; rfl; intro w' hw'; go_simp; (try with_reducible rfl)
            simp only [Act.put, List.setIfInBounds_toArray, List.set_cons_zero, List.set_cons_succ]
            apply wpR_call 14 (some 59)
            · simp only [List.getElem?_toArray, List.getElem?_cons_succ, List.getElem?_cons_zero]; exact rfl
            · rfl
            · kernel_rfl
            · rfl
            · intro w'; go_simp; first | done | exact ⟨rfl, rfl⟩ | with_reducible rfl
            intro w' hw'
            refine (HT1.out _ (Da_951.out.bl hw')).mono ?_
            rintro e w959 ⟨rfl, hb959⟩
            have Da_959 := Lib.hid ((Da_951.out.bl hw').bl hb959)
            have D0_959 := Lib.hid ((D0_951.out.bl hw').bl hb959)
            have Bel_959 := Lib.hid (bel_bl (bel_bl Bel_951.out hw') hb959)
            have ld960 := fun w'' (h : Kept Nil_ w959 w'') => ld952 w'' ((Kept.of_ext hw').trans ((Kept.of_below hb959).trans h))
            have ld961 := fun w'' (h : Kept Nil_ w959 w'') => ld953 w'' ((Kept.of_ext hw').trans ((Kept.of_below hb959).trans h))
            have ld962 := fun w'' (h : Kept Nil_ w959 w'') => ld954 w'' ((Kept.of_ext hw').trans ((Kept.of_below hb959).trans h))
            have ld963 := fun w'' (h : Kept Nil_ w959 w'') => ld955 w'' ((Kept.of_ext hw').trans ((Kept.of_below hb959).trans h))
            have ld964 := fun w'' (h : Kept Nil_ w959 w'') => ld956 w'' ((Kept.of_ext hw').trans ((Kept.of_below hb959).trans h))
            have ld965 := fun w'' (h : Kept Nil_ w959 w'') => ld957 w'' ((Kept.of_ext hw').trans ((Kept.of_below hb959).trans h))
            have ld966 := fun w'' (h : Kept Nil_ w959 w'') => ld958 w'' ((Kept.of_ext hw').trans ((Kept.of_below hb959).trans h))
            refine ⟨_, rfl, Kept.of_below hb959, ?_⟩
            clear hw' hb959
            simp only [Act.put, List.setIfInBounds_toArray, List.set_cons_zero, List.set_cons_succ]
            apply wpR_next 15 (some 60)
            · simp only [List.getElem?_toArray, List.getElem?_cons_succ, List.getElem?_cons_zero]; exact rfl
            · rfl
            · kernel_rfl
            · kernel_rfl
            · kernel_rfl
            · exact fun _ _ _ _ h => h
            apply Exists.intro
            apply And.intro
            · apply yr_run; rfl; intro w' hw'; go_simp; (try with_reducible rfl)
            simp only [Act.put, List.setIfInBounds_toArray, List.set_cons_zero, List.set_cons_succ]
            apply wpR_next 16 (some 61)
            · simp only [List.getElem?_toArray, List.getElem?_cons_succ, List.getElem?_cons_zero]; exact rfl
            · rfl
            · kernel_rfl
            · kernel_rfl
            · kernel_rfl
            · exact fun _ _ _ _ h => h
            apply Exists.intro
            apply And.intro
            · apply yr_run; rfl; intro w' hw'; go_simp; (try with_reducible rfl)
            simp only [Act.put, List.setIfInBounds_toArray, List.set_cons_zero, List.set_cons_succ]
            apply wpR_next 17 (some 62)
            · simp only [List.getElem?_toArray, List.getElem?_cons_succ, List.getElem?_cons_zero]; exact rfl
            · rfl
            · kernel_rfl
            · kernel_rfl
            · kernel_rfl
            · exact fun _ _ _ _ h => h
            apply Exists.intro
            apply And.intro
            · apply yr_run; rfl; intro w' hw'; go_simp; (try with_reducible rfl)
            simp only [Act.put, List.setIfInBounds_toArray, List.set_cons_zero, List.set_cons_succ]
            apply wpR_next 18 (some 63)
            · simp only [List.getElem?_toArray, List.getElem?_cons_succ, List.getElem?_cons_zero]; exact rfl
            · rfl
            · kernel_rfl
            · kernel_rfl
            · kernel_rfl
            · exact fun _ _ _ _ h => h
            apply Exists.intro
            apply And.intro
            · apply yr_run; rfl; intro w' hw'; go_simp; (try with_reducible rfl)
            simp only [Act.put, List.setIfInBounds_toArray, List.set_cons_zero, List.set_cons_succ]
            apply wpR_next 19 (some 64)
            · simp only [List.getElem?_toArray, List.getElem?_cons_succ, List.getElem?_cons_zero]; exact rfl
            · rfl
            · kernel_rfl
            · kernel_rfl
            · kernel_rfl
            · exact fun _ _ _ _ h => h
            apply Exists.intro
            apply And.intro
            · apply yr_run; rfl; intro w' hw'; go_simp; (try with_reducible rfl)
            simp only [Act.put, List.setIfInBounds_toArray, List.set_cons_zero, List.set_cons_succ]
            apply wpR_next 20 (some 65)
            · simp only [List.getElem?_toArray, List.getElem?_cons_succ, List.getElem?_cons_zero]; exact rfl
            · rfl
            · kernel_rfl
            · kernel_rfl
            · kernel_rfl
            · exact fun _ _ _ _ h => h
            apply Exists.intro
            apply And.intro
            · exact yr_skip (by rfl)
            simp only [Act.put, List.setIfInBounds_toArray, List.set_cons_zero, List.set_cons_succ]
            apply wpR_next 21 (some 66)
            · simp only [List.getElem?_toArray, List.getElem?_cons_succ, List.getElem?_cons_zero]; exact rfl
            · rfl
            · kernel_rfl
            · kernel_rfl
            · kernel_rfl
            · exact fun _ _ _ _ h => h
            apply Exists.intro
            apply And.intro
            · exact yr_skip (by rfl)
            simp only [Act.put, List.setIfInBounds_toArray, List.set_cons_zero, List.set_cons_succ]
            apply wpR_next 22 (some 67)
            · simp only [List.getElem?_toArray, List.getElem?_cons_succ, List.getElem?_cons_zero]; exact rfl
            · rfl
            · kernel_rfl
            · kernel_rfl
            · kernel_rfl
            · exact fun _ _ _ _ h => h
            apply Exists.intro
            apply And.intro
            · exact yr_skip (by rfl)
            simp only [Act.put, List.setIfInBounds_toArray, List.set_cons_zero, List.set_cons_succ]
            apply wpR_next 23 (some 68)
            · simp only [List.getElem?_toArray, List.getElem?_cons_succ, List.getElem?_cons_zero]; exact rfl
            · rfl
            · kernel_rfl
            · kernel_rfl
            · kernel_rfl
            · exact fun _ _ _ _ h => h
            apply Exists.intro
            apply And.intro
            · exact yr_skip (by rfl)
            simp only [Act.put, List.setIfInBounds_toArray, List.set_cons_zero, List.set_cons_succ]
            apply wpR_next 24 (some 69)
            · simp only [List.getElem?_toArray, List.getElem?_cons_succ, List.getElem?_cons_zero]; exact rfl
            · rfl
            · kernel_rfl
            · kernel_rfl
            · kernel_rfl
            · exact fun _ _ _ _ h => h
            apply Exists.intro
            apply And.intro
            · exact yr_skip (by rfl)
            simp only [Act.put, List.setIfInBounds_toArray, List.set_cons_zero, List.set_cons_succ]
            apply wpR_next 25 (some 70)
            · simp only [List.getElem?_toArray, List.getElem?_cons_succ, List.getElem?_cons_zero]; exact rfl
            · rfl
            · kernel_rfl
            · kernel_rfl
            · kernel_rfl
            · exact fun _ _ _ _ h => h
            apply Exists.intro
            apply And.intro
            · exact yr_skip (by rfl)
            simp only [Act.put, List.setIfInBounds_toArray, List.set_cons_zero, List.set_cons_succ]
            apply wpR_next 26 (some 71)
            · simp only [List.getElem?_toArray, List.getElem?_cons_succ, List.getElem?_cons_zero]; exact rfl
            · rfl
            · kernel_rfl
            · kernel_rfl
            · kernel_rfl
            · exact fun _ _ _ _ h => h
            apply Exists.intro
            apply And.intro
            · exact yr_skip (by rfl)
            simp only [Act.put, List.setIfInBounds_toArray, List.set_cons_zero, List.set_cons_succ]
            apply wpR_next 27 (some 72)
            · simp only [List.getElem?_toArray, List.getElem?_cons_succ, List.getElem?_cons_zero]; exact rfl
            · rfl
            · kernel_rfl
            · kernel_rfl
            · kernel_rfl
            · exact fun _ _ _ _ h => h
            apply Exists.intro
            apply And.intro
            · exact yr_skip (by rfl)
            simp only [Act.put, List.setIfInBounds_toArray, List.set_cons_zero, List.set_cons_succ]
            apply wpR_next 28 (some 73)
            · simp only [List.getElem?_toArray, List.getElem?_cons_succ, List.getElem?_cons_zero]; exact rfl
            · rfl
            · kernel_rfl
            · kernel_rfl
            · kernel_rfl
            · exact fun _ _ _ _ h => h
            apply Exists.intro
            apply And.intro
            · exact yr_skip (by rfl)
            simp only [Act.put, List.setIfInBounds_toArray, List.set_cons_zero, List.set_cons_succ]
            apply wpR_next 29 (some 74)
            · simp only [List.getElem?_toArray, List.getElem?_cons_succ, List.getElem?_cons_zero]; exact rfl
            · rfl
            · kernel_rfl
            · kernel_rfl
            · kernel_rfl
            · exact fun _ _ _ _ h => h
            apply Exists.intro
            apply And.intro
            · exact yr_skip (by rfl)
            simp only [Act.put, List.setIfInBounds_toArray, List.set_cons_zero, List.set_cons_succ]
            apply wpR_next 30 (some 75)
            · simp only [List.getElem?_toArray, List.getElem?_cons_succ, List.getElem?_cons_zero]; exact rfl
            · rfl
            · kernel_rfl
            · kernel_rfl
            · kernel_rfl
            · exact fun _ _ _ _ h => h
            apply Exists.intro
            apply And.intro
            · exact yr_skip (by rfl)
            simp only [Act.put, List.setIfInBounds_toArray, List.set_cons_zero, List.set_cons_succ]
            apply wpR_next 31 (some 76)
            · simp only [List.getElem?_toArray, List.getElem?_cons_succ, List.getElem?_cons_zero]; exact rfl
            · rfl
            · kernel_rfl
            · kernel_rfl
            · kernel_rfl
            · exact fun _ _ _ _ h => h
            apply Exists.intro
            apply And.intro
            · exact yr_skip (by rfl)
            simp only [Act.put, List.setIfInBounds_toArray, List.set_cons_zero, List.set_cons_succ]
            apply wpR_next 32 (some 77)
            · simp only [List.getElem?_toArray, List.getElem?_cons_succ, List.getElem?_cons_zero]; exact rfl
            · rfl
            · kernel_rfl
            · kernel_rfl
            · kernel_rfl
            · exact fun _ _ _ _ h => h
            apply Exists.intro
            apply And.intro
            · exact yr_skip (by rfl)
            simp only [Act.put, List.setIfInBounds_toArray, List.set_cons_zero, List.set_cons_succ]
            apply wpR_next 33 (some 78)
            · simp only [List.getElem?_toArray, List.getElem?_cons_succ, List.getElem?_cons_zero]; exact rfl
            · rfl
            · kernel_rfl
            · kernel_rfl
            · kernel_rfl
            · exact fun _ _ _ _ h => h
            apply Exists.intro
            apply And.intro
            · exact yr_skip (by rfl)
            simp only [Act.put, List.setIfInBounds_toArray, List.set_cons_zero, List.set_cons_succ]
            apply wpR_next 34 (some 79)
            · simp only [List.getElem?_toArray, List.getElem?_cons_succ, List.getElem?_cons_zero]; exact rfl
            · rfl
            · kernel_rfl
            · kernel_rfl
            · kernel_rfl
            · exact fun _ _ _ _ h => h
            apply Exists.intro
            apply And.intro
            · apply yr_run; rfl; intro w' hw'; go_simp; (try with_reducible rfl)
            simp only [Act.put, List.setIfInBounds_toArray, List.set_cons_zero, List.set_cons_succ]
            apply wpR_next 35 (some 80)
            · simp only [List.getElem?_toArray, List.getElem?_cons_succ, List.getElem?_cons_zero]; exact rfl
            · rfl
            · kernel_rfl
            · kernel_rfl
            · kernel_rfl
            · exact fun _ _ _ _ h => h
            apply Exists.intro
            apply And.intro
            · apply yr_run; rfl; intro w' hw'; go_simp; (try with_reducible rfl)
            simp only [Act.put, List.setIfInBounds_toArray, List.set_cons_zero, List.set_cons_succ]
            refine wpR_done (by kernel_rfl) ?_ _
            intro w967 hw'
            have Da_968 := Lib.hid (Da_959.out.bl hw')
            have D0_968 := Lib.hid (D0_959.out.bl hw')
            have Bel_968 := Lib.hid (bel_bl Bel_959.out hw')
            clear Da_959 D0_959 Bel_959
            clear hw'
            have HBn := Lib.hid (Bel_968.out)
            clear Da_968 D0_968 Bel_968 cx cx0 y0 y1 z0 z1 u0 u1
            go_wp2
            go_roundw
            case rel => exact ⟨q + 1, by omega, by go_num, HBn⟩
            case measure => simp [intOf] <;> omega
        · obtain rfl : xn = q := by omega
          go_wp2
          go_roundw
          case rel => exact ⟨i + 1, t2, by omega, by go_num, rfl, HS2, ht2, HBi⟩
          case measure => simp [intOf] <;> omega
    · obtain rfl : cc = i := by omega
      have htn : t = n := by
        have h1 := HS.out
        rw [List.take_of_length_le (by rw [HPl.out]; exact Nat.le_refl _), HSu.out] at h1
        exact h1.symm
      obtain rfl : n = t := htn.symm
      go_wp2
      go_loopw [9] (fun si wr => ∃ i : Nat, i ≤ m ∧ si = .int .i64 i ∧ RowKit.Hid (Below w10.heap.size w10 wr)) (fun si _ => m - (intOf si).toNat)
      case atStart => exact ⟨0, by omega, rfl, HBo⟩
      case round =>
        clear HBo
        obtain ⟨i, hi, rfl, HBo⟩ := hrel
        obtain ⟨wo, gwo⟩ : ∃ z, wr = z := ⟨_, rfl⟩
        rw [gwo] at HBo ⊢
        clear gwo
        have HDo := Lib.hid (HD5.out.bl HBo.out)
        have HXo := Lib.hid (HX5.out.bl HBo.out)
        have cb := HXo.out.cell (i := 1) rfl
        by_cases him : i < m
        · obtain ⟨e, he⟩ : ∃ e, Es[i]? = some e := ⟨_, List.getElem?_eq_getElem (by have := Hlw.out; omega)⟩
          have htt := edge_tog HFm.out (List.mem_of_getElem? he)
          obtain ⟨bb, off, rfl, hbB, hpl⟩ := HDo.out.e.place eC_len (by decide) (by omega)
          have q0 := hpl i _ he 0 _ rfl
          have q1 := hpl i _ he 1 _ rfl
          simp only [Addr.add_lit, Nat.add_zero] at q0 q1
          obtain ⟨⟨e1, e2⟩, er⟩ := e
          replace htt : togF Vs (atV Vs (e1, e2, 0)).1 (atV Vs (e1, e2, 1)).1 = true := htt
          have HA0 := Lib.hid (HAt.out e1 e2 0)
          have HA1 := Lib.hid (HAt.out e1 e2 1)
          obtain ⟨⟨⟨p1, p2⟩, pk⟩, gp⟩ : ∃ z, atV Vs (e1, e2, 0) = z := ⟨_, rfl⟩
          obtain ⟨⟨⟨s1, s2⟩, sk⟩, gs⟩ : ∃ z, atV Vs (e1, e2, 1) = z := ⟨_, rfl⟩
          rw [gp, gs] at htt
          rw [gp] at HA0
          rw [gs] at HA1
          have HTe := Lib.hid (HTg.out p1 p2 s1 s2)
          rw [show togF Vs (p1, p2) (s1, s2) = true from htt] at HTe
          have HLd : RowKit.Hid (∀ W, Below wo.heap.size wo W → W.cell? ⟨w.heap.size, 0, none⟩ = some (.slice A n c) ∧ W.cell? ⟨w.heap.size, 1, none⟩ = some (.slice (some ⟨bb, off, none⟩) m k) ∧ W.cell? ⟨bb, off + i * 4, none⟩ = some (.int .i64 e1) ∧ W.cell? ⟨bb, off + i * 4 + 1, none⟩ = some (.int .i64 e2)) := Lib.hid (fun W hb => ⟨(HXo.out.bl hb).cell (i := 0) rfl, (HXo.out.bl hb).cell (i := 1) rfl, (hb.cell (p := ⟨bb, off + i * 4, none⟩) (World.block_lt_of_cell? _ _ q0)).trans q0, (hb.cell (p := ⟨bb, off + i * 4 + 1, none⟩) (World.block_lt_of_cell? _ _ q1)).trans q1⟩)
          have HLe : RowKit.Hid (∀ W, Ext wo.drew W → W.cell? ⟨w.heap.size, 0, none⟩ = some (.slice A n c) ∧ W.cell? ⟨w.heap.size, 1, none⟩ = some (.slice (some ⟨bb, off, none⟩) m k) ∧ W.cell? ⟨bb, off + i * 4, none⟩ = some (.int .i64 e1) ∧ W.cell? ⟨bb, off + i * 4 + 1, none⟩ = some (.int .i64 e2)) := Lib.hid (fun W hb => HLd.out W (bel_bl (bel_dr (Below.refl _ _)) hb))
          clear he htt gp gs hbB hpl q0 q1
          go_upto_region 19 with fail
          clear cb
          refine wp_region_in3 13 11 (From_ wo.heap.size) (gamL [some (.agg #[.slice A n c, .slice (some ⟨bb, off, none⟩) m k]), some (.pointer (some ⟨w.heap.size, 1, none⟩)), some (.slice (some ⟨bb, off, none⟩) m k), some (.int .i64 (i : Int)), some (.pointer (some ⟨bb, off + i * 4, none⟩)), some (.pointer (some ⟨bb, off + i * 4, none⟩)), some (.agg #[.int .i64 e1, .int .i64 e2]), some (.agg #[.int .i64 e1, .int .i64 e2, .int .i64 0]), some (.tuple #[.agg #[.int .i64 p1, .int .i64 p2], .bool pk]), some (.tuple #[.agg #[.int .i64 p1, .int .i64 p2], .bool pk]), some (.agg #[.int .i64 p1, .int .i64 p2]), some (.bool pk), none] 12 wo.heap.size 27 [.int .i64 0, .int .i64 0]) (Ext wo.drew) (by kernel_rfl) (by kernel_rfl) (by kernel_rfl) (by kernel_rfl) (by kernel_rfl) (by kernel_rfl) (by simp only [List.getElem?_toArray, List.getElem?_cons_succ, List.getElem?_cons_zero]; exact rfl) (by kernel_rfl) (by kernel_rfl) (by kernel_rfl) ?_ (fun i v w1 w2 h hx => gamL_up i v w1 w2 h hx) (fun _ _ h k => h.trans k) (Ext.refl _) ?_ ?_ ?_
          · exact fun _ _ _ _ h => h
          · intro i hi9
            have hcase : i = 0 ∨ i = 1 ∨ i = 2 ∨ i = 3 ∨ i = 4 ∨ i = 5 ∨ i = 6 ∨ i = 7 ∨ i = 8 ∨ i = 9 ∨ i = 10 ∨ i = 11 ∨ i = 12 := by omega
            rcases hcase with rfl | rfl | rfl | rfl | rfl | rfl | rfl | rfl | rfl | rfl | rfl | rfl | rfl
            · intro o ho x y hg hdep
              simp only [List.getElem?_toArray, List.getElem?_cons_succ, List.getElem?_cons_zero, Option.some.injEq] at ho
              subst ho
              obtain ⟨hl0, hl1, hl2, hl3⟩ := HLe.out _ hg
              simp only [dsts, List.map_cons, List.map_nil, putAll, Act.put, List.setIfInBounds_toArray, List.set_cons_zero, List.set_cons_succ]
              refine .inl ⟨by rfl, ?_⟩
              go_simp
              exact ⟨Ext.refl _, rfl⟩
            · intro o ho x y hg hdep
              simp only [List.getElem?_toArray, List.getElem?_cons_succ, List.getElem?_cons_zero, Option.some.injEq] at ho
              subst ho
              simp only [dsts, List.map_cons, List.map_nil, putAll, Act.put, List.setIfInBounds_toArray, List.set_cons_zero, List.set_cons_succ]
              refine .inl ⟨by rfl, ?_⟩
              go_simp
              exact ⟨Ext.refl _, rfl⟩
            · intro o ho x y hg hdep
              simp only [List.getElem?_toArray, List.getElem?_cons_succ, List.getElem?_cons_zero, Option.some.injEq] at ho
              subst ho
              have d1 : x 1 = .pointer (some ⟨w.heap.size, 1, none⟩) := hdep 1 (by decide)
              obtain ⟨hl0, hl1, hl2, hl3⟩ := HLe.out _ hg
              simp only [dsts, List.map_cons, List.map_nil, putAll, Act.put, List.setIfInBounds_toArray, List.set_cons_zero, List.set_cons_succ]
              simp only [d1]
              refine .inl ⟨by rfl, ?_⟩
              go_simp
              exact ⟨Ext.refl _, rfl⟩
            · intro o ho x y hg hdep
              simp only [List.getElem?_toArray, List.getElem?_cons_succ, List.getElem?_cons_zero, Option.some.injEq] at ho
              subst ho
              simp only [dsts, List.map_cons, List.map_nil, putAll, Act.put, List.setIfInBounds_toArray, List.set_cons_zero, List.set_cons_succ]
              refine .inl ⟨by rfl, ?_⟩
              go_simp
              exact ⟨Ext.refl _, rfl⟩
            · intro o ho x y hg hdep
              simp only [List.getElem?_toArray, List.getElem?_cons_succ, List.getElem?_cons_zero, Option.some.injEq] at ho
              subst ho
              have d2 : x 2 = .slice (some ⟨bb, off, none⟩) m k := hdep 2 (by decide)
              have d3 : x 3 = .int .i64 (i : Int) := hdep 3 (by decide)
              simp only [dsts, List.map_cons, List.map_nil, putAll, Act.put, List.setIfInBounds_toArray, List.set_cons_zero, List.set_cons_succ]
              simp only [d2, d3]
              refine .inl ⟨by rfl, ?_⟩
              go_simp
              exact ⟨Ext.refl _, rfl⟩
            · intro o ho x y hg hdep
              simp only [List.getElem?_toArray, List.getElem?_cons_succ, List.getElem?_cons_zero, Option.some.injEq] at ho
              subst ho
              have d4 : x 4 = .pointer (some ⟨bb, off + i * 4, none⟩) := hdep 4 (by decide)
              simp only [dsts, List.map_cons, List.map_nil, putAll, Act.put, List.setIfInBounds_toArray, List.set_cons_zero, List.set_cons_succ]
              simp only [d4]
              refine .inl ⟨by rfl, ?_⟩
              go_simp
              exact ⟨Ext.refl _, rfl⟩
            · intro o ho x y hg hdep
              simp only [List.getElem?_toArray, List.getElem?_cons_succ, List.getElem?_cons_zero, Option.some.injEq] at ho
              subst ho
              have d5 : x 5 = .pointer (some ⟨bb, off + i * 4, none⟩) := hdep 5 (by decide)
              obtain ⟨hl0, hl1, hl2, hl3⟩ := HLe.out _ hg
              simp only [dsts, List.map_cons, List.map_nil, putAll, Act.put, List.setIfInBounds_toArray, List.set_cons_zero, List.set_cons_succ]
              simp only [d5]
              refine .inl ⟨by rfl, ?_⟩
              go_simp
              exact ⟨Ext.refl _, rfl⟩
            · intro o ho x y hg hdep
              simp only [List.getElem?_toArray, List.getElem?_cons_succ, List.getElem?_cons_zero, Option.some.injEq] at ho
              subst ho
              have d6 : x 6 = .agg #[.int .i64 e1, .int .i64 e2] := hdep 6 (by decide)
              simp only [dsts, List.map_cons, List.map_nil, putAll, Act.put, List.setIfInBounds_toArray, List.set_cons_zero, List.set_cons_succ]
              simp only [d6]
              refine .inl ⟨by rfl, ?_⟩
              go_simp
              exact ⟨Ext.refl _, rfl⟩
            · intro o ho x y hg hdep
              simp only [List.getElem?_toArray, List.getElem?_cons_succ, List.getElem?_cons_zero, Option.some.injEq] at ho
              subst ho
              have d0 : x 0 = .agg #[.slice A n c, .slice (some ⟨bb, off, none⟩) m k] := hdep 0 (by decide)
              have d7 : x 7 = .agg #[.int .i64 e1, .int .i64 e2, .int .i64 0] := hdep 7 (by decide)
              simp only [dsts, List.map_cons, List.map_nil, putAll, Act.put, List.setIfInBounds_toArray, List.set_cons_zero, List.set_cons_succ]
              simp only [d0, d7]
              refine .inl ⟨by rfl, outT_call (by go_simp; first | done | exact ⟨rfl, rfl⟩ | with_reducible rfl) ?_⟩
              refine (HA0.out y (HDo.out.dr.bl hg)).mono ?_
              rintro e w2 ⟨rfl, hb⟩
              exact ⟨_, rfl, hb, rfl⟩
            · intro o ho x y hg hdep
              simp only [List.getElem?_toArray, List.getElem?_cons_succ, List.getElem?_cons_zero, Option.some.injEq] at ho
              subst ho
              have d8 : x 8 = .tuple #[.agg #[.int .i64 p1, .int .i64 p2], .bool pk] := hdep 8 (by decide)
              simp only [dsts, List.map_cons, List.map_nil, putAll, Act.put, List.setIfInBounds_toArray, List.set_cons_zero, List.set_cons_succ]
              simp only [d8]
              refine .inl ⟨by rfl, ?_⟩
              go_simp
              exact ⟨Ext.refl _, rfl⟩
            · intro o ho x y hg hdep
              simp only [List.getElem?_toArray, List.getElem?_cons_succ, List.getElem?_cons_zero, Option.some.injEq] at ho
              subst ho
              have d9 : x 9 = .tuple #[.agg #[.int .i64 p1, .int .i64 p2], .bool pk] := hdep 9 (by decide)
              simp only [dsts, List.map_cons, List.map_nil, putAll, Act.put, List.setIfInBounds_toArray, List.set_cons_zero, List.set_cons_succ]
              simp only [d9]
              refine .inl ⟨by rfl, ?_⟩
              go_simp
              exact ⟨Ext.refl _, rfl⟩
            · intro o ho x y hg hdep
              simp only [List.getElem?_toArray, List.getElem?_cons_succ, List.getElem?_cons_zero, Option.some.injEq] at ho
              subst ho
              have d9 : x 9 = .tuple #[.agg #[.int .i64 p1, .int .i64 p2], .bool pk] := hdep 9 (by decide)
              simp only [dsts, List.map_cons, List.map_nil, putAll, Act.put, List.setIfInBounds_toArray, List.set_cons_zero, List.set_cons_succ]
              simp only [d9]
              refine .inl ⟨by rfl, ?_⟩
              go_simp
              exact ⟨Ext.refl _, rfl⟩
            · intro o ho x y hg hdep
              simp only [List.getElem?_toArray, List.getElem?_cons_succ, List.getElem?_cons_zero, Option.some.injEq] at ho
              subst ho
              simp only [dsts, List.map_cons, List.map_nil, putAll, Act.put, List.setIfInBounds_toArray, List.set_cons_zero, List.set_cons_succ]
              refine .inl ⟨by rfl, outT_run (w' := y.alloc (.cells #[.int .i64 0, .int .i64 0] 27)) (by go_simp; first | done | exact rfl | exact ⟨rfl, rfl⟩) (below1 _ _) ?_⟩
              exact ⟨y.heap.size, rfl, hg.size, Whole.new_ _ _ [.int .i64 0, .int .i64 0]⟩
          · intro x y hg hall
            have d9 : x 9 = .tuple #[.agg #[.int .i64 p1, .int .i64 p2], .bool pk] := hall 9 (by decide) (by decide)
            simp only [dsts, List.map_cons, List.map_nil, putAll, Act.put, List.setIfInBounds_toArray, List.set_cons_zero, List.set_cons_succ]
            simp only [d9]
            refine ⟨.bool pk, ?_, rfl⟩
            apply yr_run; rfl; intro w' hw'; go_simp; (try with_reducible rfl)
          intro x y hg hall
          have d10 : x 10 = .agg #[.int .i64 p1, .int .i64 p2] := hall 10 (by decide)
          have d11 : x 11 = .bool pk := hall 11 (by decide)
          obtain ⟨gr, d12, hlr, hwr⟩ : ∃ g, x 12 = .pointer (some ⟨g, 0, none⟩) ∧ wo.heap.size ≤ g ∧ Whole y g 27 [.int .i64 0, .int .i64 0] := hall 12 (by decide)
          simp only [dsts, List.map_cons, List.map_nil, putAll, Act.put, List.setIfInBounds_toArray, List.set_cons_zero, List.set_cons_succ]
          simp only [d10, d11, d12]
          have HWy := Lib.hid hwr
          have HBy := Lib.hid (bel_bl (bel_dr (Below.refl _ wo)) hg)
          have HLr : RowKit.Hid (wo.heap.size ≤ gr) := Lib.hid hlr
          have HW0 : RowKit.Hid (wo.heap.size ≤ wo.heap.size) := Lib.hid (by omega)
          clear hg hall d10 d11 d12 hlr hwr
          apply wpR_store 13
          · simp only [List.getElem?_toArray, List.getElem?_cons_succ, List.getElem?_cons_zero]; exact rfl
          · rfl
          · kernel_rfl
          · rfl
          intro w' hw'
          refine ⟨w'.setRow gr #[.int .i64 p1, .int .i64 p2], store_row_run 27 (.tmp 10) (.tmp 98) rfl gr rfl [.int .i64 p1, .int .i64 p2] rfl 27 [.int .i64 0, .int .i64 0] (HWy.out.bl hw') (by kernel_rfl) rfl (by simp [Value.oneCell']), kept_row (show wo.heap.size ≤ gr by have := HLr.out; have := HW0.out; omega) _, ?_⟩
          have HWz : RowKit.Hid (Whole (w'.setRow gr #[.int .i64 p1, .int .i64 p2]) gr 27 [.int .i64 p1, .int .i64 p2]) := Lib.hid (Whole.row (HWy.out.bl hw') [.int .i64 p1, .int .i64 p2])
          have HBz : RowKit.Hid (Below wo.heap.size wo (w'.setRow gr #[.int .i64 p1, .int .i64 p2])) := Lib.hid (below_row (bel_bl HBy.out hw') HLr.out _)
          obtain ⟨V1, gV1⟩ : ∃ z, w'.setRow gr #[.int .i64 p1, .int .i64 p2] = z := ⟨_, rfl⟩
          rw [gV1] at HWz HBz ⊢
          clear hw' gV1 HWy HBy
          apply wpR_next 14 (some 11)
          · simp only [List.getElem?_toArray, List.getElem?_cons_succ, List.getElem?_cons_zero]; exact rfl
          · rfl
          · kernel_rfl
          · kernel_rfl
          · kernel_rfl
          · exact fun _ _ _ _ h => h
          apply Exists.intro
          apply And.intro
          · apply yr_run; rfl; intro w' hw'; go_simp; (try with_reducible rfl)
          simp only [Act.put, List.setIfInBounds_toArray, List.set_cons_zero, List.set_cons_succ]
          refine wpR_done (by kernel_rfl) ?_ _
          intro W8 hw8
          have HWr := Lib.hid (HWz.out.bl hw8)
          have HBr := Lib.hid (bel_bl HBz.out hw8)
          clear hw8 HWz HBz HW0
          obtain ⟨ga, gga⟩ : ∃ z, gr = z := ⟨_, rfl⟩
          rw [gga] at HWr ⊢
          obtain ⟨wa, gwa⟩ : ∃ z, W8 = z := ⟨_, rfl⟩
          rw [gwa] at HWr HBr ⊢
          clear gga gwa HLe HLr gr
          have HWa := HWr
          have HBa := HBr
          have HDa2 := Lib.hid (HDo.out.bl HBa.out)
          have HLe : RowKit.Hid (∀ W, Ext wa.drew W → W.cell? ⟨w.heap.size, 0, none⟩ = some (.slice A n c) ∧ W.cell? ⟨w.heap.size, 1, none⟩ = some (.slice (some ⟨bb, off, none⟩) m k) ∧ W.cell? ⟨bb, off + i * 4, none⟩ = some (.int .i64 e1) ∧ W.cell? ⟨bb, off + i * 4 + 1, none⟩ = some (.int .i64 e2)) := Lib.hid (fun W hb => HLd.out W (bel_bl HBa.out (bel_bl (bel_dr (Below.refl _ _)) hb)))
          clear HWr HBr
          go_upto_region 20 with fail
          refine wp_region_in3 13 11 (From_ wa.heap.size) (gamL [some (.agg #[.slice A n c, .slice (some ⟨bb, off, none⟩) m k]), some (.pointer (some ⟨w.heap.size, 1, none⟩)), some (.slice (some ⟨bb, off, none⟩) m k), some (.int .i64 (i : Int)), some (.pointer (some ⟨bb, off + i * 4, none⟩)), some (.pointer (some ⟨bb, off + i * 4, none⟩)), some (.agg #[.int .i64 e1, .int .i64 e2]), some (.agg #[.int .i64 e1, .int .i64 e2, .int .i64 1]), some (.tuple #[.agg #[.int .i64 s1, .int .i64 s2], .bool sk]), some (.tuple #[.agg #[.int .i64 s1, .int .i64 s2], .bool sk]), some (.agg #[.int .i64 s1, .int .i64 s2]), some (.bool sk), none] 12 wa.heap.size 27 [.int .i64 0, .int .i64 0]) (Ext wa.drew) (by kernel_rfl) (by kernel_rfl) (by kernel_rfl) (by kernel_rfl) (by kernel_rfl) (by kernel_rfl) (by simp only [List.getElem?_toArray, List.getElem?_cons_succ, List.getElem?_cons_zero]; exact rfl) (by kernel_rfl) (by kernel_rfl) (by kernel_rfl) ?_ (fun i v w1 w2 h hx => gamL_up i v w1 w2 h hx) (fun _ _ h k => h.trans k) (Ext.refl _) ?_ ?_ ?_
          · exact fun _ _ _ _ h => h
          · intro i hi9
            have hcase : i = 0 ∨ i = 1 ∨ i = 2 ∨ i = 3 ∨ i = 4 ∨ i = 5 ∨ i = 6 ∨ i = 7 ∨ i = 8 ∨ i = 9 ∨ i = 10 ∨ i = 11 ∨ i = 12 := by omega
            rcases hcase with rfl | rfl | rfl | rfl | rfl | rfl | rfl | rfl | rfl | rfl | rfl | rfl | rfl
            · intro o ho x y hg hdep
              simp only [List.getElem?_toArray, List.getElem?_cons_succ, List.getElem?_cons_zero, Option.some.injEq] at ho
              subst ho
              obtain ⟨hl0, hl1, hl2, hl3⟩ := HLe.out _ hg
              simp only [dsts, List.map_cons, List.map_nil, putAll, Act.put, List.setIfInBounds_toArray, List.set_cons_zero, List.set_cons_succ]
              refine .inl ⟨by rfl, ?_⟩
              go_simp
              exact ⟨Ext.refl _, rfl⟩
            · intro o ho x y hg hdep
              simp only [List.getElem?_toArray, List.getElem?_cons_succ, List.getElem?_cons_zero, Option.some.injEq] at ho
              subst ho
              simp only [dsts, List.map_cons, List.map_nil, putAll, Act.put, List.setIfInBounds_toArray, List.set_cons_zero, List.set_cons_succ]
              refine .inl ⟨by rfl, ?_⟩
              go_simp
              exact ⟨Ext.refl _, rfl⟩
            · intro o ho x y hg hdep
              simp only [List.getElem?_toArray, List.getElem?_cons_succ, List.getElem?_cons_zero, Option.some.injEq] at ho
              subst ho
              have d1 : x 1 = .pointer (some ⟨w.heap.size, 1, none⟩) := hdep 1 (by decide)
              obtain ⟨hl0, hl1, hl2, hl3⟩ := HLe.out _ hg
              simp only [dsts, List.map_cons, List.map_nil, putAll, Act.put, List.setIfInBounds_toArray, List.set_cons_zero, List.set_cons_succ]
              simp only [d1]
              refine .inl ⟨by rfl, ?_⟩
              go_simp
              exact ⟨Ext.refl _, rfl⟩
            · intro o ho x y hg hdep
              simp only [List.getElem?_toArray, List.getElem?_cons_succ, List.getElem?_cons_zero, Option.some.injEq] at ho
              subst ho
              simp only [dsts, List.map_cons, List.map_nil, putAll, Act.put, List.setIfInBounds_toArray, List.set_cons_zero, List.set_cons_succ]
              refine .inl ⟨by rfl, ?_⟩
              go_simp
              exact ⟨Ext.refl _, rfl⟩
            · intro o ho x y hg hdep
              simp only [List.getElem?_toArray, List.getElem?_cons_succ, List.getElem?_cons_zero, Option.some.injEq] at ho
              subst ho
              have d2 : x 2 = .slice (some ⟨bb, off, none⟩) m k := hdep 2 (by decide)
              have d3 : x 3 = .int .i64 (i : Int) := hdep 3 (by decide)
              simp only [dsts, List.map_cons, List.map_nil, putAll, Act.put, List.setIfInBounds_toArray, List.set_cons_zero, List.set_cons_succ]
              simp only [d2, d3]
              refine .inl ⟨by rfl, ?_⟩
              go_simp
              exact ⟨Ext.refl _, rfl⟩
            · intro o ho x y hg hdep
              simp only [List.getElem?_toArray, List.getElem?_cons_succ, List.getElem?_cons_zero, Option.some.injEq] at ho
              subst ho
              have d4 : x 4 = .pointer (some ⟨bb, off + i * 4, none⟩) := hdep 4 (by decide)
              simp only [dsts, List.map_cons, List.map_nil, putAll, Act.put, List.setIfInBounds_toArray, List.set_cons_zero, List.set_cons_succ]
              simp only [d4]
              refine .inl ⟨by rfl, ?_⟩
              go_simp
              exact ⟨Ext.refl _, rfl⟩
            · intro o ho x y hg hdep
              simp only [List.getElem?_toArray, List.getElem?_cons_succ, List.getElem?_cons_zero, Option.some.injEq] at ho
              subst ho
              have d5 : x 5 = .pointer (some ⟨bb, off + i * 4, none⟩) := hdep 5 (by decide)
              obtain ⟨hl0, hl1, hl2, hl3⟩ := HLe.out _ hg
              simp only [dsts, List.map_cons, List.map_nil, putAll, Act.put, List.setIfInBounds_toArray, List.set_cons_zero, List.set_cons_succ]
              simp only [d5]
              refine .inl ⟨by rfl, ?_⟩
              go_simp
              exact ⟨Ext.refl _, rfl⟩
            · intro o ho x y hg hdep
              simp only [List.getElem?_toArray, List.getElem?_cons_succ, List.getElem?_cons_zero, Option.some.injEq] at ho
              subst ho
              have d6 : x 6 = .agg #[.int .i64 e1, .int .i64 e2] := hdep 6 (by decide)
              simp only [dsts, List.map_cons, List.map_nil, putAll, Act.put, List.setIfInBounds_toArray, List.set_cons_zero, List.set_cons_succ]
              simp only [d6]
              refine .inl ⟨by rfl, ?_⟩
              go_simp
              exact ⟨Ext.refl _, rfl⟩
            · intro o ho x y hg hdep
              simp only [List.getElem?_toArray, List.getElem?_cons_succ, List.getElem?_cons_zero, Option.some.injEq] at ho
              subst ho
              have d0 : x 0 = .agg #[.slice A n c, .slice (some ⟨bb, off, none⟩) m k] := hdep 0 (by decide)
              have d7 : x 7 = .agg #[.int .i64 e1, .int .i64 e2, .int .i64 1] := hdep 7 (by decide)
              simp only [dsts, List.map_cons, List.map_nil, putAll, Act.put, List.setIfInBounds_toArray, List.set_cons_zero, List.set_cons_succ]
              simp only [d0, d7]
              refine .inl ⟨by rfl, outT_call (by go_simp; first | done | exact ⟨rfl, rfl⟩ | with_reducible rfl) ?_⟩
              refine (HA1.out y (HDa2.out.dr.bl hg)).mono ?_
              rintro e w2 ⟨rfl, hb⟩
              exact ⟨_, rfl, hb, rfl⟩
            · intro o ho x y hg hdep
              simp only [List.getElem?_toArray, List.getElem?_cons_succ, List.getElem?_cons_zero, Option.some.injEq] at ho
              subst ho
              have d8 : x 8 = .tuple #[.agg #[.int .i64 s1, .int .i64 s2], .bool sk] := hdep 8 (by decide)
              simp only [dsts, List.map_cons, List.map_nil, putAll, Act.put, List.setIfInBounds_toArray, List.set_cons_zero, List.set_cons_succ]
              simp only [d8]
              refine .inl ⟨by rfl, ?_⟩
              go_simp
              exact ⟨Ext.refl _, rfl⟩
            · intro o ho x y hg hdep
              simp only [List.getElem?_toArray, List.getElem?_cons_succ, List.getElem?_cons_zero, Option.some.injEq] at ho
              subst ho
              have d9 : x 9 = .tuple #[.agg #[.int .i64 s1, .int .i64 s2], .bool sk] := hdep 9 (by decide)
              simp only [dsts, List.map_cons, List.map_nil, putAll, Act.put, List.setIfInBounds_toArray, List.set_cons_zero, List.set_cons_succ]
              simp only [d9]
              refine .inl ⟨by rfl, ?_⟩
              go_simp
              exact ⟨Ext.refl _, rfl⟩
            · intro o ho x y hg hdep
              simp only [List.getElem?_toArray, List.getElem?_cons_succ, List.getElem?_cons_zero, Option.some.injEq] at ho
              subst ho
              have d9 : x 9 = .tuple #[.agg #[.int .i64 s1, .int .i64 s2], .bool sk] := hdep 9 (by decide)
              simp only [dsts, List.map_cons, List.map_nil, putAll, Act.put, List.setIfInBounds_toArray, List.set_cons_zero, List.set_cons_succ]
              simp only [d9]
              refine .inl ⟨by rfl, ?_⟩
              go_simp
              exact ⟨Ext.refl _, rfl⟩
            · intro o ho x y hg hdep
              simp only [List.getElem?_toArray, List.getElem?_cons_succ, List.getElem?_cons_zero, Option.some.injEq] at ho
              subst ho
              simp only [dsts, List.map_cons, List.map_nil, putAll, Act.put, List.setIfInBounds_toArray, List.set_cons_zero, List.set_cons_succ]
              refine .inl ⟨by rfl, outT_run (w' := y.alloc (.cells #[.int .i64 0, .int .i64 0] 27)) (by go_simp; first | done | exact rfl | exact ⟨rfl, rfl⟩) (below1 _ _) ?_⟩
              exact ⟨y.heap.size, rfl, hg.size, Whole.new_ _ _ [.int .i64 0, .int .i64 0]⟩
          · intro x y hg hall
            have d9 : x 9 = .tuple #[.agg #[.int .i64 s1, .int .i64 s2], .bool sk] := hall 9 (by decide) (by decide)
            simp only [dsts, List.map_cons, List.map_nil, putAll, Act.put, List.setIfInBounds_toArray, List.set_cons_zero, List.set_cons_succ]
            simp only [d9]
            refine ⟨.bool sk, ?_, rfl⟩
            apply yr_run; rfl; intro w' hw'; go_simp; (try with_reducible rfl)
          intro x y hg hall
          have d10 : x 10 = .agg #[.int .i64 s1, .int .i64 s2] := hall 10 (by decide)
          have d11 : x 11 = .bool sk := hall 11 (by decide)
          obtain ⟨gr, d12, hlr, hwr⟩ : ∃ g, x 12 = .pointer (some ⟨g, 0, none⟩) ∧ wa.heap.size ≤ g ∧ Whole y g 27 [.int .i64 0, .int .i64 0] := hall 12 (by decide)
          simp only [dsts, List.map_cons, List.map_nil, putAll, Act.put, List.setIfInBounds_toArray, List.set_cons_zero, List.set_cons_succ]
          simp only [d10, d11, d12]
          have HWy := Lib.hid hwr
          have HBy := Lib.hid (bel_bl (bel_dr (Below.refl _ wa)) hg)
          have HLr : RowKit.Hid (wa.heap.size ≤ gr) := Lib.hid hlr
          have HW0 : RowKit.Hid (wa.heap.size ≤ wa.heap.size) := Lib.hid (by omega)
          clear hg hall d10 d11 d12 hlr hwr
          apply wpR_store 13
          · simp only [List.getElem?_toArray, List.getElem?_cons_succ, List.getElem?_cons_zero]; exact rfl
          · rfl
          · kernel_rfl
          · rfl
          intro w' hw'
          refine ⟨w'.setRow gr #[.int .i64 s1, .int .i64 s2], store_row_run 27 (.tmp 12) (.tmp 110) rfl gr rfl [.int .i64 s1, .int .i64 s2] rfl 27 [.int .i64 0, .int .i64 0] (HWy.out.bl hw') (by kernel_rfl) rfl (by simp [Value.oneCell']), kept_row (show wa.heap.size ≤ gr by have := HLr.out; have := HW0.out; omega) _, ?_⟩
          have HWz : RowKit.Hid (Whole (w'.setRow gr #[.int .i64 s1, .int .i64 s2]) gr 27 [.int .i64 s1, .int .i64 s2]) := Lib.hid (Whole.row (HWy.out.bl hw') [.int .i64 s1, .int .i64 s2])
          have HBz : RowKit.Hid (Below wa.heap.size wa (w'.setRow gr #[.int .i64 s1, .int .i64 s2])) := Lib.hid (below_row (bel_bl HBy.out hw') HLr.out _)
          obtain ⟨V1, gV1⟩ : ∃ z, w'.setRow gr #[.int .i64 s1, .int .i64 s2] = z := ⟨_, rfl⟩
          rw [gV1] at HWz HBz ⊢
          clear hw' gV1 HWy HBy
          apply wpR_next 14 (some 13)
          · simp only [List.getElem?_toArray, List.getElem?_cons_succ, List.getElem?_cons_zero]; exact rfl
          · rfl
          · kernel_rfl
          · kernel_rfl
          · kernel_rfl
          · exact fun _ _ _ _ h => h
          apply Exists.intro
          apply And.intro
          · apply yr_run; rfl; intro w' hw'; go_simp; (try with_reducible rfl)
          simp only [Act.put, List.setIfInBounds_toArray, List.set_cons_zero, List.set_cons_succ]
          refine wpR_done (by kernel_rfl) ?_ _
          intro W8 hw8
          have HWr := Lib.hid (HWz.out.bl hw8)
          have HBr := Lib.hid (bel_bl HBz.out hw8)
          clear hw8 HWz HBz HW0
          have HWb := HWr
          have HWa2 := Lib.hid (HWa.out.bl HBr.out)
          have HBb := Lib.hid (bel_bl HBa.out HBr.out)
          have HDb := Lib.hid (HDo.out.bl HBb.out)
          obtain ⟨c0, c1, -, -⟩ := HLd.out _ HBb.out
          have k0 := HWa2.out.cell (i := 0) rfl
          have k1 := HWa2.out.cell (i := 1) rfl
          have k2 := HWb.out.cell (i := 0) rfl
          have k3 := HWb.out.cell (i := 1) rfl
          clear HWr HBr HLe HLr HWa HBa HDa2
          go_wp2_with fail
          clear c0 c1 k0 k1 k2 k3
          refine (HTe.out _ HDb.out).mono ?_
          rintro e w9 ⟨rfl, hb9⟩
          have HB9 : RowKit.Hid (Below w10.heap.size w10 w9) := Lib.hid (bel_bl (bel_bl HBo.out HBb.out) hb9)
          clear hb9 HWb HWa2 HBb HDb
          go_wp2
          go_roundw
          case rel => exact ⟨i + 1, by omega, by go_num, HB9⟩
          case measure => simp [intOf] <;> omega
        · obtain rfl : m = i := by omega
          have c0 := HXo.out.cell (i := 0) rfl
          go_wp2_with fail
          clear c0 cb
          refine (HCo.out _ HDo.out).mono ?_
          rintro e w9 ⟨rfl, hb9⟩
          have HX9 := Lib.hid (HXo.out.bl hb9)
          have HB9 : RowKit.Hid (Below w10.heap.size w10 w9) := Lib.hid (bel_bl HBo.out hb9)
          clear hb9
          have c0 := HX9.out.cell (i := 0) rfl
          have c1 := HX9.out.cell (i := 1) rfl
          have g1 : ((n : Int) == (n : Int)) = true := by simp
          have g2 : ((cc : Int) == (cc : Int)) = true := by simp
          have g3 : IntKind.i64.wrap ((n : Int) - (m : Int)) = (n : Int) - (m : Int) := IntWalk.i64_in _ (by omega)
          have g4 : (n : Int) - (m : Int) ≤ (cc : Int) := by have := HGe.out.1; omega
          have g5 : decide ((n : Int) - (m : Int) ≤ (cc : Int)) = true := decide_eq_true g4
          have g6 : (cc : Int) ≤ (n : Int) := by have := HGe.out.2; omega
          have g7 : decide ((cc : Int) ≤ (n : Int)) = true := decide_eq_true g6
          have g8 : decide (cc ≤ n) = true := decide_eq_true HGe.out.2
          go_wp2
          go_ret
          exact ⟨rfl, HB5.out.trans (HB9.out.mono HB5.out.size)⟩
end Go.Proofs.Ytjkbcpikdkidhaa
