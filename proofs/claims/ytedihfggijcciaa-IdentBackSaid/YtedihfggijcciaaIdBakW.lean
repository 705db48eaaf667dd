/- IdentBack's walk. -/
import Derived.Test.YtedihfggijcciaaIdBakM
import Derived.Test.YtedihfggijcciaaIdBytL
import Derived.Deep.DeepCutAuto
namespace Go.Proofs.Ytedihfggijcciaa
open Go.RowKit
set_option linter.unusedSimpArgs false
set_option linter.unusedVariables false

/-- The two names stand in their box. -/
structure BakIn (w : World) (s0 m0 s1 m1 : Int) (x : World) : Prop where
  b : Below w.heap.size w x
  x0 : x.cell? ⟨w.heap.size, 0, none⟩ = some (.int .i64 s0)
  x1 : x.cell? ⟨w.heap.size, 1, none⟩ = some (.int .i64 m0)
  x2 : x.cell? ⟨w.heap.size, 2, none⟩ = some (.int .i64 s1)
  x3 : x.cell? ⟨w.heap.size, 3, none⟩ = some (.int .i64 m1)
theorem BakIn.up {w : World} {s0 m0 s1 m1 : Int} {x y : World} (h : BakIn w s0 m0 s1 m1 x) (hx : Ext x y) : BakIn w s0 m0 s1 m1 y :=
  ⟨h.b.trans (Below.mono hx h.b.size), hx.cell h.x0, hx.cell h.x1, hx.cell h.x2, hx.cell h.x3⟩

/-- What stands from the loop on. -/
structure BakAll (w : World) (s0 m0 s1 m1 : Int) (gy gn : Nat) (nx : Int × Int) (Ap Aq Ar A A2 : Option Addr) (cp cq cr n c k c2 : Nat) (bs : List Int) (l : List (Int × Int)) (x : World) : Prop where
  i : BakIn w s0 m0 s1 m1 x
  y0 : x.cell? ⟨gy, 0, none⟩ = some (.int .i64 s0)
  y1 : x.cell? ⟨gy, 1, none⟩ = some (.int .i64 m0)
  d0 : x.cell? ⟨gy + 1, 0, none⟩ = some (.int .i64 s0)
  d1 : x.cell? ⟨gy + 1, 1, none⟩ = some (.int .i64 m0)
  d2 : x.cell? ⟨gy + 1, 2, none⟩ = some (.int .i64 1)
  n0 : x.cell? ⟨gn, 0, none⟩ = some (.int .i64 nx.1)
  n1 : x.cell? ⟨gn, 1, none⟩ = some (.int .i64 nx.2)
  p : RdS x x.heap.size 1 Ap (nameB s0 m0).length cp (bytesV (nameB s0 m0))
  q : RdS x x.heap.size 1 Aq (nameB s1 m1).length cq (bytesV (nameB s1 m1))
  r : RdS x x.heap.size 1 Ar bs.length cr (bytesV bs)
  b : RdS x x.heap.size 1 A n c (bytesV bs)
  l : RdS x x.heap.size 2 A2 k c2 (namesV l)
theorem BakAll.up {w : World} {s0 m0 s1 m1 : Int} {gy gn : Nat} {nx : Int × Int} {Ap Aq Ar A A2 : Option Addr} {cp cq cr n c k c2 : Nat} {bs : List Int} {l : List (Int × Int)} {x y : World}
    (h : BakAll w s0 m0 s1 m1 gy gn nx Ap Aq Ar A A2 cp cq cr n c k c2 bs l x) (hx : Ext x y) : BakAll w s0 m0 s1 m1 gy gn nx Ap Aq Ar A A2 cp cq cr n c k c2 bs l y :=
  ⟨h.i.up hx, hx.cell h.y0, hx.cell h.y1, hx.cell h.d0, hx.cell h.d1, hx.cell h.d2, hx.cell h.n0, hx.cell h.n1,
    h.p.up hx (Below.size hx), h.q.up hx (Below.size hx), h.r.up hx (Below.size hx), h.b.up hx (Below.size hx), h.l.up hx (Below.size hx)⟩

set_option maxRecDepth 100000 in
set_option maxHeartbeats 16000000 in
theorem law_back (s0 m0 s1 m1 : Int) (A A2 : Option Addr) (n c n2 c2 : Nat) (bs : List Int) (l : List (Int × Int)) (w : World) (hf : fits bs) (hcm : c ≤ maxLen) (hcm2 : c2 ≤ maxLen)
    (h : RdS w w.heap.size 1 A n c (bytesV bs)) (h2 : RdS w w.heap.size 2 A2 n2 c2 (namesV l)) :
    Calls Try.prog 5 #[.agg #[.int .i64 s0, .int .i64 m0, .int .i64 s1, .int .i64 m1], .slice A n c, .slice A2 n2 c2] w fun e w' => e = .returned (.bool true) ∧ Below w.heap.size w w' := by
  have H0 := Lib.hid shown_any
  have hcb : 100 < n → ∀ W : World, (Instr.slice 34 (.slice A n c) none (some (.int .i64 100)) none).run Try.prog W = .ok (.slice A 100 c) W := fun hn W => by
    cases A with
    | none => exact absurd (h.none_ rfl).1 (by omega)
    | some a => exact run_head_b a n c hn h.le W
  have hcl : 100 < n2 → ∀ W : World, (Instr.slice 35 (.slice A2 n2 c2) none (some (.int .i64 100)) none).run Try.prog W = .ok (.slice A2 100 c2) W := fun hn W => by
    cases A2 with
    | none => exact absurd (h2.none_ rfl).1 (by omega)
    | some a => exact run_head_l a n2 c2 hn h2.le W
  have HCB := Lib.hid hcb
  have HCL := Lib.hid hcl
  have H := Lib.hid h
  have H2 := Lib.hid h2
  have HF := Lib.hid hf
  clear hcb hcl h h2 hf hcm hcm2
  go_enter Try.func5, Try.ntmps5
  go_upto_if 19 with (go_at_call 9; refine (H0.out _).mono ?_; rintro e w1 ⟨rfl, hb1⟩)
  have hI : BakIn w s0 m0 s1 m1 w1 := by
    refine BakIn.up (x := w.alloc (.cells #[.int .i64 s0, .int .i64 m0, .int .i64 s1, .int .i64 m1] 43)) ?_ hb1
    exact ⟨below1 _ _, by simp [go_sem], by simp [go_sem], by simp [go_sem], by simp [go_sem]⟩
  clear hb1
  go_cut [1] (fun v x => ∃ (n' : Nat) (bs' : List Int), v = .slice A n' c ∧ n' ≤ 100 ∧ fits bs' ∧ BakIn w s0 m0 s1 m1 x ∧ RdS x w.heap.size 1 A n' c (bytesV bs'))
  case first =>
    by_cases hn : 100 < n
    · have hc := HCB.out hn
      have ht : (100 : Int) < n := by omega
      go_wp2_with fail
      go_meet
      have t1 := H.out.take_ 100 (by omega)
      rw [← bytesV_take] at t1
      exact ⟨100, bs.take 100, rfl, Nat.le_refl _, fun x hx => HF.out x (List.mem_of_mem_take hx), hI, t1.below hI.b⟩
    · have ht : ¬ (100 : Int) < n := by omega
      go_wp2_with fail
      go_meet
      exact ⟨n, bs, rfl, by omega, HF.out, hI, H.out.below hI.b⟩
  case rest =>
    obtain ⟨n', bs', rfl, hn', hf', hI', hr⟩ := hcut
    have HF' := Lib.hid hf'
    have HR := Lib.hid hr
    clear hf' hr hI H HF HCB
    go_upto_if 24 with fail
    go_cut [2] (fun v x => ∃ (k' : Nat) (l' : List (Int × Int)), v = .slice A2 k' c2 ∧ k' ≤ 100 ∧ BakIn w s0 m0 s1 m1 x ∧ RdS x w.heap.size 1 A n' c (bytesV bs') ∧ RdS x w.heap.size 2 A2 k' c2 (namesV l'))
    case first =>
      by_cases hn : 100 < n2
      · have hc := HCL.out hn
        have ht : (100 : Int) < n2 := by omega
        go_wp2_with fail
        go_meet
        have t2 := H2.out.take_ 100 (by omega)
        rw [namesV_take] at t2
        exact ⟨100, l.take 100, rfl, Nat.le_refl _, hI', HR.out, t2.below hI'.b⟩
      · have ht : ¬ (100 : Int) < n2 := by omega
        go_wp2_with fail
        go_meet
        exact ⟨n2, l, rfl, by omega, hI', HR.out, H2.out.below hI'.b⟩
    case rest =>
      obtain ⟨k', l', rfl, hk', hJ, hr, hq⟩ := hcut
      have HB := Lib.hid hr
      have HQ := Lib.hid hq
      clear hr hq hI' H2 HCL HR
      have hw0 := hJ.x0
      have hw1 := hJ.x1
      have hw2 := hJ.x2
      have hw3 := hJ.x3
      have HM0 := may_any s0 m0
      have HM1 := may_any s1 m1
      have B0 := Lib.hid (fun W => HM0 W)
      have B1 := Lib.hid (fun W => HM1 W)
      clear HM0 HM1
      cases e0 : mayI s0 m0
      · rw [e0] at B0
        go_wp2_with (go_at_call 11; refine (B0.out _).mono ?_; rintro e w2 ⟨rfl, hb2⟩)
        go_ret
        exact ⟨rfl, (hJ.up hb2).b⟩
      · cases e1 : mayI s1 m1
        · rw [e0] at B0
          rw [e1] at B1
          have E0 := Lib.hid e0
          have E1 := Lib.hid e1
          clear e0 e1
          go_wp2_with (first | (go_at_call 11; (with_reducible refine (B0.out _).mono ?_); rintro e w2 ⟨rfl, hb2⟩; have hK := hJ.up hb2; have hv0 := hK.x2; have hv1 := hK.x3) | (go_at_call 11; (with_reducible refine (B1.out _).mono ?_); rintro e w3 ⟨rfl, hb3⟩))
          go_ret
          exact ⟨rfl, (hK.up hb3).b⟩
        · rw [e0] at B0
          rw [e1] at B1
          have E0 := Lib.hid e0
          have E1 := Lib.hid e1
          clear e0 e1
          have ms0 := may_bounds s0 m0 E0.out
          have ms1 := may_bounds s1 m1 E1.out
          obtain ⟨i0, hi, hz0, hz1, hz2⟩ := info_parts info_u8
          have hnil : ∀ W : World, RdS W W.heap.size 1 none 0 0 (bytesV []) := fun W => ⟨rfl, fun _ => ⟨rfl, rfl⟩, Nat.le_refl _, fun a ha => (by cases ha), fun a ha => (by cases ha)⟩
          have P0 : Hid (∀ W : World, Calls Try.prog 22 #[.slice none 0 0, .agg #[.int .i64 s0, .int .i64 m0]] W (GivesB W (nameB s0 m0))) := Lib.hid (fun W => put_any none 0 0 [] s0 m0 W (hnil W) (by omega) ms0.1 ms0.2)
          have P1 : Hid (∀ W : World, Calls Try.prog 22 #[.slice none 0 0, .agg #[.int .i64 s1, .int .i64 m1]] W (GivesB W (nameB s1 m1))) := Lib.hid (fun W => put_any none 0 0 [] s1 m1 W (hnil W) (by omega) ms1.1 ms1.2)
          have TK := Lib.hid (fun A5 n5 c5 W h hn => take_any A5 n5 c5 (nameB s0 m0 ++ bs') W h hn (fits_app (fits_name s0 m0 E0.out) HF'.out))
          rw [take_name s0 m0 bs' E0.out] at TK
          have NX := Lib.hid (fun W h => next_any A2 k' c2 l' s0 W h (by omega))
          have NW := Lib.hid (next_new s0 l')
          generalize nextI s0 l' = nx at *
          clear hnil
          go_wp2_with (first
            | (go_at_call 11; (with_reducible refine (B0.out _).mono ?_); rintro e w2 ⟨rfl, hb2⟩; have hK := hJ.up hb2; have hv0 := hK.x2; have hv1 := hK.x3)
            | (go_at_call 11; (with_reducible refine (B1.out _).mono ?_); rintro e w3 ⟨rfl, hb3⟩; have hK3 := hK.up hb3; have ha0 := hK3.x0; have ha1 := hK3.x1)
            | (go_at_call 22; (with_reducible refine (P0.out _).mono ?_); rintro e w4 ⟨vp, rfl, hop, hb4⟩; obtain ⟨Ap, cp, rfl, hrp⟩ := RdS.of_own hop; have hK4 := hK3.up hb4; have hc0 := hK4.x2; have hc1 := hK4.x3)
            | (go_at_call 22; (with_reducible refine (P1.out _).mono ?_); rintro e w5 ⟨vq, rfl, hoq, hb5⟩; obtain ⟨Aq, cq, rfl, hrq⟩ := RdS.of_own hoq; have hK5 := hK4.up hb5)
            | (at_builtin
               refine wpList_append_rds rfl (.tmp 45) (.tmp 46) _ rfl w5.heap.size 5 i0 (.int .u8 0) 1 1 Try.underlying34 hi hz0 hz1 hz2 rfl (by decide) (.slice (some ⟨w5.heap.size, 0, none⟩) 0 0) 0 [] rfl (by exact own_new rfl (Nat.le_refl _) (by unfold maxLen; omega) (by simp) rfl) w4.heap.size Ap (nameB s0 m0).length cp (bytesV (nameB s0 m0)) rfl (by exact (hrp.below hb5).below (Below.mono (below1 _ _) (Below.size hb5))) (bytesV_one _) (by unfold maxLen; simp [nameB]) (by simp [nameB]) (by simp) ?_
               intro v6 w6 hown6 hg6 hat6
               have E6 : Ext w5 w6 := (below1 w5 _).grown hg6 (by simp) (by simp [Value.ownBlock]))
            | (at_builtin
               refine wpList_append_rds rfl (.tmp 47) (.tmp 48) _ rfl w5.heap.size 5 i0 (.int .u8 0) 1 1 Try.underlying34 hi hz0 hz1 hz2 rfl (by decide) v6 _ _ rfl hown6 w.heap.size A n' c (bytesV bs') rfl (by exact HB.out.below (Below.mono (Ext.trans (Ext.trans (Ext.trans (Ext.trans hb2 hb3) hb4) hb5) E6) hJ.b.size)) (bytesV_one _) (by unfold maxLen; simp [nameB]; omega) (by simp [nameB]; omega) (by exact Below.size E6) ?_
               intro v7 w7 hown7 hg7 hat7
               have E7 : Ext w5 w7 := Below.grown E6 hg7 (Below.size E6) (fun b hb => (hown6.lt b hb).1)
               obtain ⟨A7, c7, rfl, hr7⟩ := RdS.of_own hown7)
            | (go_at_call 20
               refine (TK.out A7 _ c7 _ (by have h7 := hr7; simp only [List.nil_append, bytesV, ← List.map_append] at h7; exact h7) (by simp [nameB]; omega)).mono ?_
               rintro e w8 ⟨vr, rfl, hor, hb8⟩
               obtain ⟨Ar, cr, rfl, hrr⟩ := RdS.of_own hor
               have E8 : Ext w5 w8 := Ext.trans E7 hb8
               have hK8 := hK5.up E8
               have hd0 := hK8.x0
               have hd1 := hK8.x1
               have hdz := World.block_lt_of_cell? _ _ hd0)
            | (go_at_call 24
               refine (NX.out _ (by exact (HQ.out.below (Below.mono (Ext.trans (Ext.trans (Ext.trans (Ext.trans (Ext.trans hb2 hb3) hb4) hb5) E8) (below2 _ _ _)) hJ.b.size)).up (Below.refl _ _) (Nat.le_trans hJ.b.size (Below.size (Ext.trans (Ext.trans (Ext.trans (Ext.trans (Ext.trans hb2 hb3) hb4) hb5) E8) (below2 _ _ _)))))).mono ?_
               rintro e w9 ⟨rfl, hb9⟩))
          have hZ : BakAll w s0 m0 s1 m1 w8.heap.size w9.heap.size nx Ap Aq Ar A A2 cp cq cr n' c k' c2 bs' l' (w9.alloc (.cells #[.int .i64 nx.1, .int .i64 nx.2] 23)) := by
            have Y : Ext ((w8.alloc (.cells #[.int .i64 s0, .int .i64 m0] 23)).alloc (.cells #[.int .i64 s0, .int .i64 m0, .int .i64 1] 25)) (w9.alloc (.cells #[.int .i64 nx.1, .int .i64 nx.2] 23)) := Ext.trans hb9 (below1 _ _)
            have Z8 : Ext w8 (w9.alloc (.cells #[.int .i64 nx.1, .int .i64 nx.2] 23)) := Ext.trans (below2 _ _ _) Y
            have Z5 := Ext.trans E8 Z8
            have Z4 := Ext.trans hb5 Z5
            have Z0 := Ext.trans (Ext.trans (Ext.trans hb2 hb3) hb4) Z4
            exact ⟨hK8.up Z8, Y.cell (by go_simp), Y.cell (by go_simp), Y.cell (by go_simp), Y.cell (by go_simp), Y.cell (by go_simp), by go_simp, by go_simp,
              hrp.up Z4 (Below.size Z4), hrq.up Z5 (Below.size Z5), hrr.up Z8 (Below.size Z8), (HB.out.up (Below.refl _ _) hJ.b.size).up Z0 (Below.size Z0), (HQ.out.up (Below.refl _ _) hJ.b.size).up Z0 (Below.size Z0)⟩
          clear hb2 hb3 hb4 hb5 hb8 hb9 hg6 hg7 E6 E7 E8 hat6 hat7 hK hK3 hK4 hK5 hK8 hop hoq hor hrp hrq hrr hr7 hown6 hown7 hv0 hv1 ha0 ha1 hc0 hc1 hd0 hd1 hdz hw0 hw1 hw2 hw3 B0 B1 P0 P1 TK NX HB HQ hJ
          generalize w8.heap.size = gy at *
          generalize w9.heap.size = gn at *
          generalize w9.alloc (.cells #[.int .i64 nx.1, .int .i64 nx.2] 23) = wl at *
          go_loopw [15] (fun i x => ∃ k : Nat, k ≤ k' ∧ i = .int .i64 k ∧ BakAll w s0 m0 s1 m1 gy gn nx Ap Aq Ar A A2 cp cq cr n' c k' c2 bs' l' x) (fun i _ => k' - (intOf i).toNat)
          case atStart => exact ⟨0, Nat.zero_le _, rfl, hZ⟩
          case round =>
            obtain ⟨k, hk, rfl, hR⟩ := hrel
            by_cases hlt : k < k'
            · obtain ⟨hll, b2, off2, rfl, _, hcell⟩ := hR.l.names_at (by omega)
              have hlt' : (k : Int) < (k' : Int) := by omega
              obtain ⟨c1, c3⟩ := hcell k (by omega)
              have hmem : l'[k]'(by omega) ∈ l' := List.getElem_mem _
              generalize l'[k]'(by omega) = p at *
              have hll' := Lib.hid hll
              clear hll hcell
              go_upto_region 16 with fail
              have g0 := fun w' (h : Ext wr.drew w') => h.cell ((Ext.drewB wr).cell c1)
              have g1 := fun w' (h : Ext wr.drew w') => h.cell ((Ext.drewB wr).cell c3)
              have g2 := fun w' (h : Ext wr.drew w') => h.cell ((Ext.drewB wr).cell hR.n0)
              have g3 := fun w' (h : Ext wr.drew w') => h.cell ((Ext.drewB wr).cell hR.n1)
              by_cases he : p = nx
              · subst he
                have hno : mayI p.1 p.2 = false := by
                  cases hm : mayI p.1 p.2
                  · rfl
                  · exact absurd hmem (NW.out hm)
                have HMN := may_any p.1 p.2
                rw [hno] at HMN
                clear hno hmem
                refine wp_region_calm (by kernel_rfl) ?_
                apply wpK_next 0 (some 68)
                · simp only [List.getElem?_toArray, List.getElem?_cons_succ, List.getElem?_cons_zero]; exact rfl
                · rfl
                · kernel_rfl
                · kernel_rfl
                · kernel_rfl
                · exact fun _ _ _ _ h => h
                apply Exists.intro
                apply And.intro
                · first | exact yk_skip (by rfl) | (apply yk_run; rfl; intro w' hw'; go_simp; (try with_reducible rfl))
                simp only [Act.put, List.setIfInBounds_toArray, List.set_cons_zero, List.set_cons_succ]
                apply wpK_next 1 (some 69)
                · simp only [List.getElem?_toArray, List.getElem?_cons_succ, List.getElem?_cons_zero]; exact rfl
                · rfl
                · kernel_rfl
                · kernel_rfl
                · kernel_rfl
                · exact fun _ _ _ _ h => h
                apply Exists.intro
                apply And.intro
                · first | exact yk_skip (by rfl) | (apply yk_run; rfl; intro w' hw'; go_simp; (try with_reducible rfl))
                simp only [Act.put, List.setIfInBounds_toArray, List.set_cons_zero, List.set_cons_succ]
                apply wpK_next 2 (some 70)
                · simp only [List.getElem?_toArray, List.getElem?_cons_succ, List.getElem?_cons_zero]; exact rfl
                · rfl
                · kernel_rfl
                · kernel_rfl
                · kernel_rfl
                · exact fun _ _ _ _ h => h
                apply Exists.intro
                apply And.intro
                · first | exact yk_skip (by rfl) | (apply yk_run; rfl; intro w' hw'; go_simp; (try with_reducible rfl))
                simp only [Act.put, List.setIfInBounds_toArray, List.set_cons_zero, List.set_cons_succ]
                apply wpK_next 3 (some 71)
                · simp only [List.getElem?_toArray, List.getElem?_cons_succ, List.getElem?_cons_zero]; exact rfl
                · rfl
                · kernel_rfl
                · kernel_rfl
                · kernel_rfl
                · exact fun _ _ _ _ h => h
                apply Exists.intro
                apply And.intro
                · first | exact yk_skip (by rfl) | (apply yk_run; rfl; intro w' hw'; go_simp; (try with_reducible rfl))
                simp only [Act.put, List.setIfInBounds_toArray, List.set_cons_zero, List.set_cons_succ]
                apply wpK_next 4 (some 72)
                · simp only [List.getElem?_toArray, List.getElem?_cons_succ, List.getElem?_cons_zero]; exact rfl
                · rfl
                · kernel_rfl
                · kernel_rfl
                · kernel_rfl
                · exact fun _ _ _ _ h => h
                apply Exists.intro
                apply And.intro
                · first | exact yk_skip (by rfl) | (apply yk_run; rfl; intro w' hw'; go_simp; (try with_reducible rfl))
                simp only [Act.put, List.setIfInBounds_toArray, List.set_cons_zero, List.set_cons_succ]
                apply wpK_next 5 (some 73)
                · simp only [List.getElem?_toArray, List.getElem?_cons_succ, List.getElem?_cons_zero]; exact rfl
                · rfl
                · kernel_rfl
                · kernel_rfl
                · kernel_rfl
                · exact fun _ _ _ _ h => h
                apply Exists.intro
                apply And.intro
                · first | exact yk_skip (by rfl) | (apply yk_run; rfl; intro w' hw'; go_simp; (try with_reducible rfl))
                simp only [Act.put, List.setIfInBounds_toArray, List.set_cons_zero, List.set_cons_succ]
                apply wpK_next 6 (some 74)
                · simp only [List.getElem?_toArray, List.getElem?_cons_succ, List.getElem?_cons_zero]; exact rfl
                · rfl
                · kernel_rfl
                · kernel_rfl
                · kernel_rfl
                · exact fun _ _ _ _ h => h
                apply Exists.intro
                apply And.intro
                · first | exact yk_skip (by rfl) | (apply yk_run; rfl; intro w' hw'; go_simp; (try with_reducible rfl))
                simp only [Act.put, List.setIfInBounds_toArray, List.set_cons_zero, List.set_cons_succ]
                apply wpK_next 7 (some 75)
                · simp only [List.getElem?_toArray, List.getElem?_cons_succ, List.getElem?_cons_zero]; exact rfl
                · rfl
                · kernel_rfl
                · kernel_rfl
                · kernel_rfl
                · exact fun _ _ _ _ h => h
                apply Exists.intro
                apply And.intro
                · first | exact yk_skip (by rfl) | (apply yk_run; rfl; intro w' hw'; go_simp; (try with_reducible rfl))
                simp only [Act.put, List.setIfInBounds_toArray, List.set_cons_zero, List.set_cons_succ]
                apply wpK_next 8 (some 76)
                · simp only [List.getElem?_toArray, List.getElem?_cons_succ, List.getElem?_cons_zero]; exact rfl
                · rfl
                · kernel_rfl
                · kernel_rfl
                · kernel_rfl
                · exact fun _ _ _ _ h => h
                apply Exists.intro
                apply And.intro
                · first | exact yk_skip (by rfl) | (apply yk_call; rfl; rotate_left; intro w' hw'; exact HMN w'; intro w'; go_simp)
                simp only [Act.put, List.setIfInBounds_toArray, List.set_cons_zero, List.set_cons_succ]
                apply wpK_next 9 (some 77)
                · simp only [List.getElem?_toArray, List.getElem?_cons_succ, List.getElem?_cons_zero]; exact rfl
                · rfl
                · kernel_rfl
                · kernel_rfl
                · kernel_rfl
                · exact fun _ _ _ _ h => h
                apply Exists.intro
                apply And.intro
                · first | exact yk_skip (by rfl) | (apply yk_run; rfl; intro w' hw'; go_simp; (try with_reducible rfl))
                simp only [Act.put, List.setIfInBounds_toArray, List.set_cons_zero, List.set_cons_succ]
                refine wpK_done (by kernel_rfl) ?_ _
                intro w' hw'
                have hE := (hR.up (Ext.drewB wr)).up hw'
                clear g0 g1 g2 g3 c1 c3
                go_wp2_with fail
                go_roundw
                case rel => exact ⟨k + 1, by omega, by go_num, hE⟩
                case measure => simp [intOf]; omega
              · have hE0 : ∀ W : World, (binOp .eql 23 (.agg #[.int .i64 p.1, .int .i64 p.2]) (.agg #[.int .i64 nx.1, .int .i64 nx.2])).run Try.prog W = .ok (.bool false) W := fun W => by
                  rw [eq_id]
                  have : (p.1 == nx.1 && p.2 == nx.2) = false := by
                    rw [Bool.eq_false_iff]
                    intro h
                    simp at h
                    exact he (Prod.ext h.1 h.2)
                  rw [this]
                have HMN := 0
                clear hmem he
                refine wp_region_calm (by kernel_rfl) ?_
                apply wpK_next 0 (some 68)
                · simp only [List.getElem?_toArray, List.getElem?_cons_succ, List.getElem?_cons_zero]; exact rfl
                · rfl
                · kernel_rfl
                · kernel_rfl
                · kernel_rfl
                · exact fun _ _ _ _ h => h
                apply Exists.intro
                apply And.intro
                · first | exact yk_skip (by rfl) | (apply yk_run; rfl; intro w' hw'; go_simp; (try with_reducible rfl))
                simp only [Act.put, List.setIfInBounds_toArray, List.set_cons_zero, List.set_cons_succ]
                apply wpK_next 1 (some 69)
                · simp only [List.getElem?_toArray, List.getElem?_cons_succ, List.getElem?_cons_zero]; exact rfl
                · rfl
                · kernel_rfl
                · kernel_rfl
                · kernel_rfl
                · exact fun _ _ _ _ h => h
                apply Exists.intro
                apply And.intro
                · first | exact yk_skip (by rfl) | (apply yk_run; rfl; intro w' hw'; go_simp; (try with_reducible rfl))
                simp only [Act.put, List.setIfInBounds_toArray, List.set_cons_zero, List.set_cons_succ]
                apply wpK_next 2 (some 70)
                · simp only [List.getElem?_toArray, List.getElem?_cons_succ, List.getElem?_cons_zero]; exact rfl
                · rfl
                · kernel_rfl
                · kernel_rfl
                · kernel_rfl
                · exact fun _ _ _ _ h => h
                apply Exists.intro
                apply And.intro
                · first | exact yk_skip (by rfl) | (apply yk_run; rfl; intro w' hw'; go_simp; (try with_reducible rfl))
                simp only [Act.put, List.setIfInBounds_toArray, List.set_cons_zero, List.set_cons_succ]
                apply wpK_next 3 (some 71)
                · simp only [List.getElem?_toArray, List.getElem?_cons_succ, List.getElem?_cons_zero]; exact rfl
                · rfl
                · kernel_rfl
                · kernel_rfl
                · kernel_rfl
                · exact fun _ _ _ _ h => h
                apply Exists.intro
                apply And.intro
                · first | exact yk_skip (by rfl) | (apply yk_run; rfl; intro w' hw'; go_simp; (try with_reducible rfl))
                simp only [Act.put, List.setIfInBounds_toArray, List.set_cons_zero, List.set_cons_succ]
                apply wpK_next 4 (some 72)
                · simp only [List.getElem?_toArray, List.getElem?_cons_succ, List.getElem?_cons_zero]; exact rfl
                · rfl
                · kernel_rfl
                · kernel_rfl
                · kernel_rfl
                · exact fun _ _ _ _ h => h
                apply Exists.intro
                apply And.intro
                · first | exact yk_skip (by rfl) | (apply yk_run; rfl; intro w' hw'; go_simp; (try with_reducible rfl))
                simp only [Act.put, List.setIfInBounds_toArray, List.set_cons_zero, List.set_cons_succ]
                apply wpK_next 5 (some 73)
                · simp only [List.getElem?_toArray, List.getElem?_cons_succ, List.getElem?_cons_zero]; exact rfl
                · rfl
                · kernel_rfl
                · kernel_rfl
                · kernel_rfl
                · exact fun _ _ _ _ h => h
                apply Exists.intro
                apply And.intro
                · first | exact yk_skip (by rfl) | (apply yk_run; rfl; intro w' hw'; go_simp; (try with_reducible rfl))
                simp only [Act.put, List.setIfInBounds_toArray, List.set_cons_zero, List.set_cons_succ]
                apply wpK_next 6 (some 74)
                · simp only [List.getElem?_toArray, List.getElem?_cons_succ, List.getElem?_cons_zero]; exact rfl
                · rfl
                · kernel_rfl
                · kernel_rfl
                · kernel_rfl
                · exact fun _ _ _ _ h => h
                apply Exists.intro
                apply And.intro
                · first | exact yk_skip (by rfl) | (apply yk_run; rfl; intro w' hw'; go_simp; (try with_reducible rfl))
                simp only [Act.put, List.setIfInBounds_toArray, List.set_cons_zero, List.set_cons_succ]
                apply wpK_next 7 (some 75)
                · simp only [List.getElem?_toArray, List.getElem?_cons_succ, List.getElem?_cons_zero]; exact rfl
                · rfl
                · kernel_rfl
                · kernel_rfl
                · kernel_rfl
                · exact fun _ _ _ _ h => h
                apply Exists.intro
                apply And.intro
                · first | exact yk_skip (by rfl) | (apply yk_run; rfl; intro w' hw'; go_simp; (try with_reducible rfl))
                simp only [Act.put, List.setIfInBounds_toArray, List.set_cons_zero, List.set_cons_succ]
                apply wpK_next 8 (some 76)
                · simp only [List.getElem?_toArray, List.getElem?_cons_succ, List.getElem?_cons_zero]; exact rfl
                · rfl
                · kernel_rfl
                · kernel_rfl
                · kernel_rfl
                · exact fun _ _ _ _ h => h
                apply Exists.intro
                apply And.intro
                · first | exact yk_skip (by rfl) | (apply yk_call; rfl; rotate_left; intro w' hw'; exact HMN w'; intro w'; go_simp)
                simp only [Act.put, List.setIfInBounds_toArray, List.set_cons_zero, List.set_cons_succ]
                apply wpK_next 9 (some 77)
                · simp only [List.getElem?_toArray, List.getElem?_cons_succ, List.getElem?_cons_zero]; exact rfl
                · rfl
                · kernel_rfl
                · kernel_rfl
                · kernel_rfl
                · exact fun _ _ _ _ h => h
                apply Exists.intro
                apply And.intro
                · first | exact yk_skip (by rfl) | (apply yk_run; rfl; intro w' hw'; go_simp; (try with_reducible rfl))
                simp only [Act.put, List.setIfInBounds_toArray, List.set_cons_zero, List.set_cons_succ]
                refine wpK_done (by kernel_rfl) ?_ _
                intro w' hw'
                have hE := (hR.up (Ext.drewB wr)).up hw'
                clear g0 g1 g2 g3 c1 c3 hE0
                go_wp2_with fail
                go_roundw
                case rel => exact ⟨k + 1, by omega, by go_num, hE⟩
                case measure => simp [intOf]; omega
            · have hlt' : ¬ (k : Int) < (k' : Int) := by omega
              go_upto_region 18 with fail
              have hord := order_any s0 m0 s1 m1
              have hot1 : Pure 18 #[.agg #[.int .i64 s0, .int .i64 m0, .int .i64 1]] (.agg #[.int .i64 s0, .int .i64 m0, .int .i64 0]) := other_any s0 m0 1 (by omega) (by omega)
              have hot0 : Pure 18 #[.agg #[.int .i64 s0, .int .i64 m0, .int .i64 0]] (.agg #[.int .i64 s0, .int .i64 m0, .int .i64 1]) := other_any s0 m0 0 (by omega) (by omega)
              have hod := orderdart_any s0 m0 0 s0 m0 1
              rw [show ordD s0 m0 0 s0 m0 1 = -1 by unfold ordD cmpI; simp] at hod
              have hless := less_name s0 m0 s1 m1 E0.out E1.out
              have g0 := fun w' (h : Ext wr.drew w') => h.cell ((Ext.drewB wr).cell hR.y0)
              have g1 := fun w' (h : Ext wr.drew w') => h.cell ((Ext.drewB wr).cell hR.y1)
              have g2 := fun w' (h : Ext wr.drew w') => h.cell ((Ext.drewB wr).cell hR.i.x0)
              have g3 := fun w' (h : Ext wr.drew w') => h.cell ((Ext.drewB wr).cell hR.i.x1)
              have g4 := fun w' (h : Ext wr.drew w') => h.cell ((Ext.drewB wr).cell hR.i.x2)
              have g5 := fun w' (h : Ext wr.drew w') => h.cell ((Ext.drewB wr).cell hR.i.x3)
              have g6 := fun w' (h : Ext wr.drew w') => h.cell ((Ext.drewB wr).cell hR.d0)
              have g7 := fun w' (h : Ext wr.drew w') => h.cell ((Ext.drewB wr).cell hR.d1)
              have g8 := fun w' (h : Ext wr.drew w') => h.cell ((Ext.drewB wr).cell hR.d2)
              have f1 := fun w' (h : Ext wr.drew w') => conv_rds (P := Try.prog) Try.underlying34 Try.underlying5 Try.underlying9 ((hR.up (Ext.drewB wr)).up h).r
              have f2 := fun w' (h : Ext wr.drew w') => conv_rds (P := Try.prog) Try.underlying34 Try.underlying5 Try.underlying9 ((hR.up (Ext.drewB wr)).up h).b
              have f3 := fun w' (h : Ext wr.drew w') => conv_rds (P := Try.prog) Try.underlying34 Try.underlying5 Try.underlying9 ((hR.up (Ext.drewB wr)).up h).p
              have f4 := fun w' (h : Ext wr.drew w') => conv_rds (P := Try.prog) Try.underlying34 Try.underlying5 Try.underlying9 ((hR.up (Ext.drewB wr)).up h).q
              refine wp_region_calm (by kernel_rfl) ?_
              apply wpK_next 0 (some 78)
              · simp only [List.getElem?_toArray, List.getElem?_cons_succ, List.getElem?_cons_zero]; exact rfl
              · rfl
              · kernel_rfl
              · kernel_rfl
              · kernel_rfl
              · exact fun _ _ _ _ h => h
              apply Exists.intro
              apply And.intro
              · first | exact yk_skip (by rfl) | (apply yk_run; rfl; intro w' hw'; go_simp; (try with_reducible rfl))
              simp only [Act.put, List.setIfInBounds_toArray, List.set_cons_zero, List.set_cons_succ]
              apply wpK_next 1 (some 79)
              · simp only [List.getElem?_toArray, List.getElem?_cons_succ, List.getElem?_cons_zero]; exact rfl
              · rfl
              · kernel_rfl
              · kernel_rfl
              · kernel_rfl
              · exact fun _ _ _ _ h => h
              apply Exists.intro
              apply And.intro
              · first | exact yk_skip (by rfl) | (apply yk_run; rfl; intro w' hw'; go_simp; (try with_reducible rfl))
              simp only [Act.put, List.setIfInBounds_toArray, List.set_cons_zero, List.set_cons_succ]
              apply wpK_next 2 (some 80)
              · simp only [List.getElem?_toArray, List.getElem?_cons_succ, List.getElem?_cons_zero]; exact rfl
              · rfl
              · kernel_rfl
              · kernel_rfl
              · kernel_rfl
              · exact fun _ _ _ _ h => h
              apply Exists.intro
              apply And.intro
              · first | exact yk_skip (by rfl) | (apply yk_run; rfl; intro w' hw'; go_simp; (try with_reducible rfl))
              simp only [Act.put, List.setIfInBounds_toArray, List.set_cons_zero, List.set_cons_succ]
              apply wpK_next 3 (some 81)
              · simp only [List.getElem?_toArray, List.getElem?_cons_succ, List.getElem?_cons_zero]; exact rfl
              · rfl
              · kernel_rfl
              · kernel_rfl
              · kernel_rfl
              · exact fun _ _ _ _ h => h
              apply Exists.intro
              apply And.intro
              · first | exact yk_skip (by rfl) | (apply yk_run; rfl; intro w' hw'; go_simp; (try with_reducible rfl))
              simp only [Act.put, List.setIfInBounds_toArray, List.set_cons_zero, List.set_cons_succ]
              apply wpK_next 4 (some 82)
              · simp only [List.getElem?_toArray, List.getElem?_cons_succ, List.getElem?_cons_zero]; exact rfl
              · rfl
              · kernel_rfl
              · kernel_rfl
              · kernel_rfl
              · exact fun _ _ _ _ h => h
              apply Exists.intro
              apply And.intro
              · first | exact yk_skip (by rfl) | (apply yk_run; rfl; intro w' hw'; go_simp; (try with_reducible rfl))
              simp only [Act.put, List.setIfInBounds_toArray, List.set_cons_zero, List.set_cons_succ]
              apply wpK_next 5 (some 83)
              · simp only [List.getElem?_toArray, List.getElem?_cons_succ, List.getElem?_cons_zero]; exact rfl
              · rfl
              · kernel_rfl
              · kernel_rfl
              · kernel_rfl
              · exact fun _ _ _ _ h => h
              apply Exists.intro
              apply And.intro
              · first | exact yk_skip (by rfl) | (apply yk_run; rfl; intro w' hw'; go_simp; (try with_reducible rfl))
              simp only [Act.put, List.setIfInBounds_toArray, List.set_cons_zero, List.set_cons_succ]
              apply wpK_next 6 (some 84)
              · simp only [List.getElem?_toArray, List.getElem?_cons_succ, List.getElem?_cons_zero]; exact rfl
              · rfl
              · kernel_rfl
              · kernel_rfl
              · kernel_rfl
              · exact fun _ _ _ _ h => h
              apply Exists.intro
              apply And.intro
              · first | exact yk_skip (by rfl) | (apply yk_run; rfl; intro w' hw'; go_simp; (try with_reducible rfl))
              simp only [Act.put, List.setIfInBounds_toArray, List.set_cons_zero, List.set_cons_succ]
              apply wpK_next 7 (some 85)
              · simp only [List.getElem?_toArray, List.getElem?_cons_succ, List.getElem?_cons_zero]; exact rfl
              · rfl
              · kernel_rfl
              · kernel_rfl
              · kernel_rfl
              · exact fun _ _ _ _ h => h
              apply Exists.intro
              apply And.intro
              · first | exact yk_skip (by rfl) | (apply yk_run; rfl; intro w' hw'; go_simp; (try with_reducible rfl))
              simp only [Act.put, List.setIfInBounds_toArray, List.set_cons_zero, List.set_cons_succ]
              apply wpK_next 8 (some 86)
              · simp only [List.getElem?_toArray, List.getElem?_cons_succ, List.getElem?_cons_zero]; exact rfl
              · rfl
              · kernel_rfl
              · kernel_rfl
              · kernel_rfl
              · exact fun _ _ _ _ h => h
              apply Exists.intro
              apply And.intro
              · first | exact yk_skip (by rfl) | (apply yk_run; rfl; intro w' hw'; go_simp; (try with_reducible rfl))
              simp only [Act.put, List.setIfInBounds_toArray, List.set_cons_zero, List.set_cons_succ]
              apply wpK_next 9 (some 87)
              · simp only [List.getElem?_toArray, List.getElem?_cons_succ, List.getElem?_cons_zero]; exact rfl
              · rfl
              · kernel_rfl
              · kernel_rfl
              · kernel_rfl
              · exact fun _ _ _ _ h => h
              apply Exists.intro
              apply And.intro
              · first | exact yk_skip (by rfl) | (apply yk_run; rfl; intro w' hw'; go_simp; (try with_reducible rfl))
              simp only [Act.put, List.setIfInBounds_toArray, List.set_cons_zero, List.set_cons_succ]
              apply wpK_next 10 (some 88)
              · simp only [List.getElem?_toArray, List.getElem?_cons_succ, List.getElem?_cons_zero]; exact rfl
              · rfl
              · kernel_rfl
              · kernel_rfl
              · kernel_rfl
              · exact fun _ _ _ _ h => h
              apply Exists.intro
              apply And.intro
              · first | exact yk_skip (by rfl) | (apply yk_run; rfl; intro w' hw'; go_simp; (try with_reducible rfl))
              simp only [Act.put, List.setIfInBounds_toArray, List.set_cons_zero, List.set_cons_succ]
              apply wpK_next 11 (some 89)
              · simp only [List.getElem?_toArray, List.getElem?_cons_succ, List.getElem?_cons_zero]; exact rfl
              · rfl
              · kernel_rfl
              · kernel_rfl
              · kernel_rfl
              · exact fun _ _ _ _ h => h
              apply Exists.intro
              apply And.intro
              · first | exact yk_skip (by rfl) | (apply yk_run; rfl; intro w' hw'; go_simp; (try with_reducible rfl))
              simp only [Act.put, List.setIfInBounds_toArray, List.set_cons_zero, List.set_cons_succ]
              apply wpK_next 12 (some 90)
              · simp only [List.getElem?_toArray, List.getElem?_cons_succ, List.getElem?_cons_zero]; exact rfl
              · rfl
              · kernel_rfl
              · kernel_rfl
              · kernel_rfl
              · exact fun _ _ _ _ h => h
              apply Exists.intro
              apply And.intro
              · first | exact yk_skip (by rfl) | (apply yk_run; rfl; intro w' hw'; go_simp; (try with_reducible rfl))
              simp only [Act.put, List.setIfInBounds_toArray, List.set_cons_zero, List.set_cons_succ]
              apply wpK_next 13 (some 91)
              · simp only [List.getElem?_toArray, List.getElem?_cons_succ, List.getElem?_cons_zero]; exact rfl
              · rfl
              · kernel_rfl
              · kernel_rfl
              · kernel_rfl
              · exact fun _ _ _ _ h => h
              apply Exists.intro
              apply And.intro
              · first | exact yk_skip (by rfl) | (apply yk_run; rfl; intro w' hw'; go_simp; (try with_reducible rfl))
              simp only [Act.put, List.setIfInBounds_toArray, List.set_cons_zero, List.set_cons_succ]
              apply wpK_next 14 (some 92)
              · simp only [List.getElem?_toArray, List.getElem?_cons_succ, List.getElem?_cons_zero]; exact rfl
              · rfl
              · kernel_rfl
              · kernel_rfl
              · kernel_rfl
              · exact fun _ _ _ _ h => h
              apply Exists.intro
              apply And.intro
              · first | exact yk_skip (by rfl) | (apply yk_run; rfl; intro w' hw'; go_simp; (try with_reducible rfl))
              simp only [Act.put, List.setIfInBounds_toArray, List.set_cons_zero, List.set_cons_succ]
              apply wpK_next 15 (some 93)
              · simp only [List.getElem?_toArray, List.getElem?_cons_succ, List.getElem?_cons_zero]; exact rfl
              · rfl
              · kernel_rfl
              · kernel_rfl
              · kernel_rfl
              · exact fun _ _ _ _ h => h
              apply Exists.intro
              apply And.intro
              · first | exact yk_skip (by rfl) | (apply yk_run; rfl; intro w' hw'; go_simp; (try with_reducible rfl))
              simp only [Act.put, List.setIfInBounds_toArray, List.set_cons_zero, List.set_cons_succ]
              apply wpK_next 16 (some 94)
              · simp only [List.getElem?_toArray, List.getElem?_cons_succ, List.getElem?_cons_zero]; exact rfl
              · rfl
              · kernel_rfl
              · kernel_rfl
              · kernel_rfl
              · exact fun _ _ _ _ h => h
              apply Exists.intro
              apply And.intro
              · first | exact yk_skip (by rfl) | (apply yk_run; rfl; intro w' hw'; go_simp; (try with_reducible rfl))
              simp only [Act.put, List.setIfInBounds_toArray, List.set_cons_zero, List.set_cons_succ]
              apply wpK_next 17 (some 95)
              · simp only [List.getElem?_toArray, List.getElem?_cons_succ, List.getElem?_cons_zero]; exact rfl
              · rfl
              · kernel_rfl
              · kernel_rfl
              · kernel_rfl
              · exact fun _ _ _ _ h => h
              apply Exists.intro
              apply And.intro
              · first | exact yk_skip (by rfl) | (apply yk_run; rfl; intro w' hw'; go_simp; (try with_reducible rfl))
              simp only [Act.put, List.setIfInBounds_toArray, List.set_cons_zero, List.set_cons_succ]
              apply wpK_next 18 (some 96)
              · simp only [List.getElem?_toArray, List.getElem?_cons_succ, List.getElem?_cons_zero]; exact rfl
              · rfl
              · kernel_rfl
              · kernel_rfl
              · kernel_rfl
              · exact fun _ _ _ _ h => h
              apply Exists.intro
              apply And.intro
              · first | exact yk_skip (by rfl) | (apply yk_run; rfl; intro w' hw'; go_simp; (try with_reducible rfl))
              simp only [Act.put, List.setIfInBounds_toArray, List.set_cons_zero, List.set_cons_succ]
              apply wpK_next 19 (some 97)
              · simp only [List.getElem?_toArray, List.getElem?_cons_succ, List.getElem?_cons_zero]; exact rfl
              · rfl
              · kernel_rfl
              · kernel_rfl
              · kernel_rfl
              · exact fun _ _ _ _ h => h
              apply Exists.intro
              apply And.intro
              · first | exact yk_skip (by rfl) | (apply yk_run; rfl; intro w' hw'; go_simp; (try with_reducible rfl))
              simp only [Act.put, List.setIfInBounds_toArray, List.set_cons_zero, List.set_cons_succ]
              apply wpK_next 20 (some 98)
              · simp only [List.getElem?_toArray, List.getElem?_cons_succ, List.getElem?_cons_zero]; exact rfl
              · rfl
              · kernel_rfl
              · kernel_rfl
              · kernel_rfl
              · exact fun _ _ _ _ h => h
              apply Exists.intro
              apply And.intro
              · first | exact yk_skip (by rfl) | (apply yk_run; rfl; intro w' hw'; go_simp; (try with_reducible rfl))
              simp only [Act.put, List.setIfInBounds_toArray, List.set_cons_zero, List.set_cons_succ]
              apply wpK_next 21 (some 99)
              · simp only [List.getElem?_toArray, List.getElem?_cons_succ, List.getElem?_cons_zero]; exact rfl
              · rfl
              · kernel_rfl
              · kernel_rfl
              · kernel_rfl
              · exact fun _ _ _ _ h => h
              apply Exists.intro
              apply And.intro
              · first | exact yk_skip (by rfl) | (apply yk_run; rfl; intro w' hw'; go_simp; (try with_reducible rfl))
              simp only [Act.put, List.setIfInBounds_toArray, List.set_cons_zero, List.set_cons_succ]
              apply wpK_next 22 (some 100)
              · simp only [List.getElem?_toArray, List.getElem?_cons_succ, List.getElem?_cons_zero]; exact rfl
              · rfl
              · kernel_rfl
              · kernel_rfl
              · kernel_rfl
              · exact fun _ _ _ _ h => h
              apply Exists.intro
              apply And.intro
              · first | exact yk_skip (by rfl) | (apply yk_run; rfl; intro w' hw'; go_simp; (try with_reducible rfl))
              simp only [Act.put, List.setIfInBounds_toArray, List.set_cons_zero, List.set_cons_succ]
              apply wpK_next 23 (some 101)
              · simp only [List.getElem?_toArray, List.getElem?_cons_succ, List.getElem?_cons_zero]; exact rfl
              · rfl
              · kernel_rfl
              · kernel_rfl
              · kernel_rfl
              · exact fun _ _ _ _ h => h
              apply Exists.intro
              apply And.intro
              · first | exact yk_skip (by rfl) | (apply yk_run; rfl; intro w' hw'; go_simp; (try with_reducible rfl))
              simp only [Act.put, List.setIfInBounds_toArray, List.set_cons_zero, List.set_cons_succ]
              apply wpK_next 24 (some 102)
              · simp only [List.getElem?_toArray, List.getElem?_cons_succ, List.getElem?_cons_zero]; exact rfl
              · rfl
              · kernel_rfl
              · kernel_rfl
              · kernel_rfl
              · exact fun _ _ _ _ h => h
              apply Exists.intro
              apply And.intro
              · first | exact yk_skip (by rfl) | (apply yk_run; rfl; intro w' hw'; go_simp; (try with_reducible rfl))
              simp only [Act.put, List.setIfInBounds_toArray, List.set_cons_zero, List.set_cons_succ]
              apply wpK_next 25 (some 103)
              · simp only [List.getElem?_toArray, List.getElem?_cons_succ, List.getElem?_cons_zero]; exact rfl
              · rfl
              · kernel_rfl
              · kernel_rfl
              · kernel_rfl
              · exact fun _ _ _ _ h => h
              apply Exists.intro
              apply And.intro
              · first | exact yk_skip (by rfl) | (apply yk_run; rfl; intro w' hw'; go_simp; (try with_reducible rfl))
              simp only [Act.put, List.setIfInBounds_toArray, List.set_cons_zero, List.set_cons_succ]
              apply wpK_next 26 (some 104)
              · simp only [List.getElem?_toArray, List.getElem?_cons_succ, List.getElem?_cons_zero]; exact rfl
              · rfl
              · kernel_rfl
              · kernel_rfl
              · kernel_rfl
              · exact fun _ _ _ _ h => h
              apply Exists.intro
              apply And.intro
              · first | exact yk_skip (by rfl) | (apply yk_run; rfl; intro w' hw'; go_simp; (try with_reducible rfl))
              simp only [Act.put, List.setIfInBounds_toArray, List.set_cons_zero, List.set_cons_succ]
              apply wpK_next 27 (some 105)
              · simp only [List.getElem?_toArray, List.getElem?_cons_succ, List.getElem?_cons_zero]; exact rfl
              · rfl
              · kernel_rfl
              · kernel_rfl
              · kernel_rfl
              · exact fun _ _ _ _ h => h
              apply Exists.intro
              apply And.intro
              · first | exact yk_skip (by rfl) | (apply yk_call; rfl; rotate_left; intro w' hw'; exact hord w'; intro w'; go_simp)
              simp only [Act.put, List.setIfInBounds_toArray, List.set_cons_zero, List.set_cons_succ]
              apply wpK_next 28 (some 106)
              · simp only [List.getElem?_toArray, List.getElem?_cons_succ, List.getElem?_cons_zero]; exact rfl
              · rfl
              · kernel_rfl
              · kernel_rfl
              · kernel_rfl
              · exact fun _ _ _ _ h => h
              apply Exists.intro
              apply And.intro
              · first | exact yk_skip (by rfl) | (apply yk_run; rfl; intro w' hw'; go_simp; (try with_reducible rfl))
              simp only [Act.put, List.setIfInBounds_toArray, List.set_cons_zero, List.set_cons_succ]
              apply wpK_next 29 (some 107)
              · simp only [List.getElem?_toArray, List.getElem?_cons_succ, List.getElem?_cons_zero]; exact rfl
              · rfl
              · kernel_rfl
              · kernel_rfl
              · kernel_rfl
              · exact fun _ _ _ _ h => h
              apply Exists.intro
              apply And.intro
              · first | exact yk_skip (by rfl) | (apply yk_run; rfl; intro w' hw'; go_simp; (try with_reducible rfl))
              simp only [Act.put, List.setIfInBounds_toArray, List.set_cons_zero, List.set_cons_succ]
              apply wpK_next 30 (some 108)
              · simp only [List.getElem?_toArray, List.getElem?_cons_succ, List.getElem?_cons_zero]; exact rfl
              · rfl
              · kernel_rfl
              · kernel_rfl
              · kernel_rfl
              · exact fun _ _ _ _ h => h
              apply Exists.intro
              apply And.intro
              · first | exact yk_skip (by rfl) | (apply yk_run; rfl; intro w' hw'; go_simp; (try with_reducible rfl))
              simp only [Act.put, List.setIfInBounds_toArray, List.set_cons_zero, List.set_cons_succ]
              apply wpK_next 31 (some 109)
              · simp only [List.getElem?_toArray, List.getElem?_cons_succ, List.getElem?_cons_zero]; exact rfl
              · rfl
              · kernel_rfl
              · kernel_rfl
              · kernel_rfl
              · exact fun _ _ _ _ h => h
              apply Exists.intro
              apply And.intro
              · first | exact yk_skip (by rfl) | (apply yk_run; rfl; intro w' hw'; go_simp; (try with_reducible rfl))
              simp only [Act.put, List.setIfInBounds_toArray, List.set_cons_zero, List.set_cons_succ]
              apply wpK_next 32 (some 110)
              · simp only [List.getElem?_toArray, List.getElem?_cons_succ, List.getElem?_cons_zero]; exact rfl
              · rfl
              · kernel_rfl
              · kernel_rfl
              · kernel_rfl
              · exact fun _ _ _ _ h => h
              apply Exists.intro
              apply And.intro
              · first | exact yk_skip (by rfl) | (apply yk_run; rfl; intro w' hw'; go_simp; (try with_reducible rfl))
              simp only [Act.put, List.setIfInBounds_toArray, List.set_cons_zero, List.set_cons_succ]
              apply wpK_next 33 (some 111)
              · simp only [List.getElem?_toArray, List.getElem?_cons_succ, List.getElem?_cons_zero]; exact rfl
              · rfl
              · kernel_rfl
              · kernel_rfl
              · kernel_rfl
              · exact fun _ _ _ _ h => h
              apply Exists.intro
              apply And.intro
              · first | exact yk_skip (by rfl) | (apply yk_call; rfl; rotate_left; intro w' hw'; exact hot1 w'; intro w'; go_simp)
              simp only [Act.put, List.setIfInBounds_toArray, List.set_cons_zero, List.set_cons_succ]
              apply wpK_next 34 (some 112)
              · simp only [List.getElem?_toArray, List.getElem?_cons_succ, List.getElem?_cons_zero]; exact rfl
              · rfl
              · kernel_rfl
              · kernel_rfl
              · kernel_rfl
              · exact fun _ _ _ _ h => h
              apply Exists.intro
              apply And.intro
              · first | exact yk_skip (by rfl) | (apply yk_call; rfl; rotate_left; intro w' hw'; exact hot0 w'; intro w'; go_simp)
              simp only [Act.put, List.setIfInBounds_toArray, List.set_cons_zero, List.set_cons_succ]
              apply wpK_next 35 (some 113)
              · simp only [List.getElem?_toArray, List.getElem?_cons_succ, List.getElem?_cons_zero]; exact rfl
              · rfl
              · kernel_rfl
              · kernel_rfl
              · kernel_rfl
              · exact fun _ _ _ _ h => h
              apply Exists.intro
              apply And.intro
              · first | exact yk_skip (by rfl) | (apply yk_run; rfl; intro w' hw'; go_simp; (try with_reducible rfl))
              simp only [Act.put, List.setIfInBounds_toArray, List.set_cons_zero, List.set_cons_succ]
              apply wpK_next 36 (some 114)
              · simp only [List.getElem?_toArray, List.getElem?_cons_succ, List.getElem?_cons_zero]; exact rfl
              · rfl
              · kernel_rfl
              · kernel_rfl
              · kernel_rfl
              · exact fun _ _ _ _ h => h
              apply Exists.intro
              apply And.intro
              · first | exact yk_skip (by rfl) | (apply yk_run; rfl; intro w' hw'; go_simp; (try with_reducible rfl))
              simp only [Act.put, List.setIfInBounds_toArray, List.set_cons_zero, List.set_cons_succ]
              apply wpK_next 37 (some 115)
              · simp only [List.getElem?_toArray, List.getElem?_cons_succ, List.getElem?_cons_zero]; exact rfl
              · rfl
              · kernel_rfl
              · kernel_rfl
              · kernel_rfl
              · exact fun _ _ _ _ h => h
              apply Exists.intro
              apply And.intro
              · first | exact yk_skip (by rfl) | (apply yk_run; rfl; intro w' hw'; go_simp; (try with_reducible rfl))
              simp only [Act.put, List.setIfInBounds_toArray, List.set_cons_zero, List.set_cons_succ]
              apply wpK_next 38 (some 116)
              · simp only [List.getElem?_toArray, List.getElem?_cons_succ, List.getElem?_cons_zero]; exact rfl
              · rfl
              · kernel_rfl
              · kernel_rfl
              · kernel_rfl
              · exact fun _ _ _ _ h => h
              apply Exists.intro
              apply And.intro
              · first | exact yk_skip (by rfl) | (apply yk_run; rfl; intro w' hw'; go_simp; (try with_reducible rfl))
              simp only [Act.put, List.setIfInBounds_toArray, List.set_cons_zero, List.set_cons_succ]
              apply wpK_next 39 (some 117)
              · simp only [List.getElem?_toArray, List.getElem?_cons_succ, List.getElem?_cons_zero]; exact rfl
              · rfl
              · kernel_rfl
              · kernel_rfl
              · kernel_rfl
              · exact fun _ _ _ _ h => h
              apply Exists.intro
              apply And.intro
              · first | exact yk_skip (by rfl) | (apply yk_run; rfl; intro w' hw'; go_simp; (try with_reducible rfl))
              simp only [Act.put, List.setIfInBounds_toArray, List.set_cons_zero, List.set_cons_succ]
              apply wpK_next 40 (some 118)
              · simp only [List.getElem?_toArray, List.getElem?_cons_succ, List.getElem?_cons_zero]; exact rfl
              · rfl
              · kernel_rfl
              · kernel_rfl
              · kernel_rfl
              · exact fun _ _ _ _ h => h
              apply Exists.intro
              apply And.intro
              · first | exact yk_skip (by rfl) | (apply yk_call; rfl; rotate_left; intro w' hw'; exact hot1 w'; intro w'; go_simp)
              simp only [Act.put, List.setIfInBounds_toArray, List.set_cons_zero, List.set_cons_succ]
              apply wpK_next 41 (some 119)
              · simp only [List.getElem?_toArray, List.getElem?_cons_succ, List.getElem?_cons_zero]; exact rfl
              · rfl
              · kernel_rfl
              · kernel_rfl
              · kernel_rfl
              · exact fun _ _ _ _ h => h
              apply Exists.intro
              apply And.intro
              · first | exact yk_skip (by rfl) | (apply yk_run; rfl; intro w' hw'; go_simp; (try with_reducible rfl))
              simp only [Act.put, List.setIfInBounds_toArray, List.set_cons_zero, List.set_cons_succ]
              apply wpK_next 42 (some 120)
              · simp only [List.getElem?_toArray, List.getElem?_cons_succ, List.getElem?_cons_zero]; exact rfl
              · rfl
              · kernel_rfl
              · kernel_rfl
              · kernel_rfl
              · exact fun _ _ _ _ h => h
              apply Exists.intro
              apply And.intro
              · first | exact yk_skip (by rfl) | (apply yk_run; rfl; intro w' hw'; go_simp; (try with_reducible rfl))
              simp only [Act.put, List.setIfInBounds_toArray, List.set_cons_zero, List.set_cons_succ]
              apply wpK_next 43 (some 121)
              · simp only [List.getElem?_toArray, List.getElem?_cons_succ, List.getElem?_cons_zero]; exact rfl
              · rfl
              · kernel_rfl
              · kernel_rfl
              · kernel_rfl
              · exact fun _ _ _ _ h => h
              apply Exists.intro
              apply And.intro
              · first | exact yk_skip (by rfl) | (apply yk_run; rfl; intro w' hw'; go_simp; (try with_reducible rfl))
              simp only [Act.put, List.setIfInBounds_toArray, List.set_cons_zero, List.set_cons_succ]
              apply wpK_next 44 (some 122)
              · simp only [List.getElem?_toArray, List.getElem?_cons_succ, List.getElem?_cons_zero]; exact rfl
              · rfl
              · kernel_rfl
              · kernel_rfl
              · kernel_rfl
              · exact fun _ _ _ _ h => h
              apply Exists.intro
              apply And.intro
              · first | exact yk_skip (by rfl) | (apply yk_run; rfl; intro w' hw'; go_simp; (try with_reducible rfl))
              simp only [Act.put, List.setIfInBounds_toArray, List.set_cons_zero, List.set_cons_succ]
              apply wpK_next 45 (some 123)
              · simp only [List.getElem?_toArray, List.getElem?_cons_succ, List.getElem?_cons_zero]; exact rfl
              · rfl
              · kernel_rfl
              · kernel_rfl
              · kernel_rfl
              · exact fun _ _ _ _ h => h
              apply Exists.intro
              apply And.intro
              · first | exact yk_skip (by rfl) | (apply yk_run; rfl; intro w' hw'; go_simp; (try with_reducible rfl))
              simp only [Act.put, List.setIfInBounds_toArray, List.set_cons_zero, List.set_cons_succ]
              apply wpK_next 46 (some 124)
              · simp only [List.getElem?_toArray, List.getElem?_cons_succ, List.getElem?_cons_zero]; exact rfl
              · rfl
              · kernel_rfl
              · kernel_rfl
              · kernel_rfl
              · exact fun _ _ _ _ h => h
              apply Exists.intro
              apply And.intro
              · first | exact yk_skip (by rfl) | (apply yk_call; rfl; rotate_left; intro w' hw'; exact hot1 w'; intro w'; go_simp)
              simp only [Act.put, List.setIfInBounds_toArray, List.set_cons_zero, List.set_cons_succ]
              apply wpK_next 47 (some 125)
              · simp only [List.getElem?_toArray, List.getElem?_cons_succ, List.getElem?_cons_zero]; exact rfl
              · rfl
              · kernel_rfl
              · kernel_rfl
              · kernel_rfl
              · exact fun _ _ _ _ h => h
              apply Exists.intro
              apply And.intro
              · first | exact yk_skip (by rfl) | (apply yk_run; rfl; intro w' hw'; go_simp; (try with_reducible rfl))
              simp only [Act.put, List.setIfInBounds_toArray, List.set_cons_zero, List.set_cons_succ]
              apply wpK_next 48 (some 126)
              · simp only [List.getElem?_toArray, List.getElem?_cons_succ, List.getElem?_cons_zero]; exact rfl
              · rfl
              · kernel_rfl
              · kernel_rfl
              · kernel_rfl
              · exact fun _ _ _ _ h => h
              apply Exists.intro
              apply And.intro
              · first | exact yk_skip (by rfl) | (apply yk_call; rfl; rotate_left; intro w' hw'; exact hod w'; intro w'; go_simp)
              simp only [Act.put, List.setIfInBounds_toArray, List.set_cons_zero, List.set_cons_succ]
              apply wpK_next 49 (some 127)
              · simp only [List.getElem?_toArray, List.getElem?_cons_succ, List.getElem?_cons_zero]; exact rfl
              · rfl
              · kernel_rfl
              · kernel_rfl
              · kernel_rfl
              · exact fun _ _ _ _ h => h
              apply Exists.intro
              apply And.intro
              · first | exact yk_skip (by rfl) | (apply yk_run; rfl; intro w' hw'; go_simp; (try with_reducible rfl))
              simp only [Act.put, List.setIfInBounds_toArray, List.set_cons_zero, List.set_cons_succ]
              apply wpK_next 50 (some 128)
              · simp only [List.getElem?_toArray, List.getElem?_cons_succ, List.getElem?_cons_zero]; exact rfl
              · rfl
              · kernel_rfl
              · kernel_rfl
              · kernel_rfl
              · exact fun _ _ _ _ h => h
              apply Exists.intro
              apply And.intro
              · first | exact yk_skip (by rfl) | (apply yk_run; rfl; intro w' hw'; go_simp; (try with_reducible rfl))
              simp only [Act.put, List.setIfInBounds_toArray, List.set_cons_zero, List.set_cons_succ]
              apply wpK_next 51 (some 6)
              · simp only [List.getElem?_toArray, List.getElem?_cons_succ, List.getElem?_cons_zero]; exact rfl
              · rfl
              · kernel_rfl
              · kernel_rfl
              · kernel_rfl
              · exact fun _ _ _ _ h => h
              apply Exists.intro
              apply And.intro
              · first | exact yk_skip (by rfl) | (apply yk_run; rfl; intro w' hw'; go_simp; (try with_reducible rfl))
              simp only [Act.put, List.setIfInBounds_toArray, List.set_cons_zero, List.set_cons_succ]
              refine wpK_done (by kernel_rfl) ?_ _
              intro w' hw'
              have hE := ((hR.up (Ext.drewB wr)).up hw').i.b
              clear g0 g1 g2 g3 g4 g5 g6 g7 g8 f1 f2 f3 f4 hless
              go_wp2
              go_ret
              exact ⟨rfl, hE⟩
end Go.Proofs.Ytedihfggijcciaa
