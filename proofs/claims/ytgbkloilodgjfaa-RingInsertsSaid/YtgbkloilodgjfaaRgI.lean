/- The document's own Swap of rings; the laws' darts; the document's examples. -/
import Derived.Test.YtgbkloilodgjfaaRgH
namespace Go.Proofs.Ytgbkloilodgjfaa
open Go.RowKit
set_option linter.unusedSimpArgs false

theorem dartsV_set (L : List D) (k : Nat) (d : D) : dartsV (L.set k d) = (((dartsV L).set (k * 3) (.int .i64 d.1)).set (k * 3 + 1) (.int .i64 d.2.1)).set (k * 3 + 2) (.int .i64 d.2.2) := by
  induction L generalizing k with
  | nil => simp [dartsV]
  | cons x L ih =>
    cases k with
    | zero => simp [dartsV]
    | succ k =>
      have e1 : (k + 1) * 3 = k * 3 + 3 := by omega
      have e2 : (k + 1) * 3 + 1 = k * 3 + 1 + 3 := by omega
      have e3 : (k + 1) * 3 + 2 = k * 3 + 2 + 3 := by omega
      rw [e2, e3, e1]
      simp [dartsV, ih]
theorem own_set3 {W : World} {B n cap g k : Nat} {e : TypeId} {L : List D} {d : D} (h : W.ownsRow B e 3 (.slice (some ⟨g, 0, none⟩) n cap) n (dartsV L)) :
    (((W.setCell ⟨g, k * 3, none⟩ (.int .i64 d.1)).setCell ⟨g, k * 3 + 1, none⟩ (.int .i64 d.2.1)).setCell ⟨g, k * 3 + 2, none⟩ (.int .i64 d.2.2)).ownsRow B e 3 (.slice (some ⟨g, 0, none⟩) n cap) n (dartsV (L.set k d)) := by
  rw [dartsV_set]
  exact (((h.stored (k * 3) (.int .i64 d.1)).1.stored (k * 3 + 1) (.int .i64 d.2.1)).1.stored (k * 3 + 2) (.int .i64 d.2.2)).1

def setR (L : List D) (o d : D) : List D := if o ∈ L ∧ ¬ d ∈ L then L.set (L.idxOf o) d else L
theorem set_mid (L : List D) (k : Nat) (d : D) (h : k < L.length) : L.set k d = L.take k ++ d :: L.drop (k + 1) := by
  induction L generalizing k with
  | nil => simp at h
  | cons x L ih =>
    cases k with
    | zero => simp
    | succ k => simp [ih k (by simpa using h)]
theorem setR_eq (L : List D) (o d : D) : setR L o d = swpR L o d := by
  unfold setR swpR
  by_cases h : o ∈ L ∧ ¬ d ∈ L
  · rw [if_pos h, if_pos h, set_mid _ _ _ (idxD_mem h.1).2]
  · rw [if_neg h, if_neg h]

set_option maxRecDepth 100000 in
set_option maxHeartbeats 1000000 in
theorem rfswap_any (A : Option Addr) (n c : Nat) (L : List D) (a d : D) (w : World) (h : RdS w w.heap.size 3 A n c (dartsV L)) (hn : n ≤ 999000) :
    Calls Try.prog 40 #[.slice A n c, .agg #[.int .i64 a.1, .int .i64 a.2.1, .int .i64 a.2.2], .agg #[.int .i64 d.1, .int .i64 d.2.1, .int .i64 d.2.2]] w (GivesR w (turnD (swpR L a d))) := by
  obtain ⟨i0, hi, hz0, hz1, hz2⟩ := info_parts info_dart
  have HI := Lib.hid (fun x W h => rfindex_any A n c L x W h (by omega))
  have HT := Lib.hid (fun A n c L W h hn => rfturn_any A n c L W h hn)
  have HR := Lib.hid h
  have hl := h.dlen
  subst hl
  rw [← setR_eq]
  obtain ⟨W0, gW0⟩ : ∃ x, (w.alloc (.cells #[.int .i64 a.1, .int .i64 a.2.1, .int .i64 a.2.2] 46)).alloc (.cells #[.int .i64 d.1, .int .i64 d.2.1, .int .i64 d.2.2] 46) = x := ⟨_, rfl⟩
  have hb0 : Below w.heap.size w W0 := by rw [← gW0]; exact below2 _ _ _
  have hs0 : w.heap.size + 2 = W0.heap.size := by rw [← gW0]; simp
  have hA0 : Whole W0 w.heap.size 46 (dartsV [a]) := by rw [← gW0]; exact (Whole.new_ w _ (dartsV [a])).alloc _
  have hD0 : Whole W0 (w.heap.size + 1) 46 (dartsV [d]) := by
    rw [← gW0]
    exact Whole.new2 (cs := dartsV [d]) (by simp)
  have hO0 : Ow w (w.heap.size + 2) 46 3 (.slice (some ⟨W0.heap.size, 0, none⟩) 0 0) 0 [] (W0.alloc (.cells #[] 46)) := Ow.new_ (e := 46) (size := 3) (cs := #[]) hb0 (B := w.heap.size + 2) (by omega) (by omega) (n := 0) (Nat.zero_le _) rfl
  have O0 := Lib.hid hO0
  have R0 := Lib.hid ((HR.out.up hb0 hb0.size).up (below1 W0 (.cells #[] 46)) (below1 W0 (.cells #[] 46)).size)
  have AA := Lib.hid (Whole.alloc hA0 (.cells #[] 46))
  have DD := Lib.hid (Whole.alloc hD0 (.cells #[] 46))
  have GW := Lib.hid gW0
  have HIa := Lib.hid (HI.out a)
  have HId := Lib.hid (HI.out d)
  have tok : True := trivial
  clear h gW0 hb0 hA0 hD0 HI hs0 hO0
  go_enter Try.func40, Try.ntmps40
  go_upto_region 1 with fail
  rw [GW.out]
  go_upto_region 2 with (first
    | (at_builtin
       refine wpList_push rfl (.tmp 9) (.tmp 10) _ rfl _ 46 i0 _ 3 24 Try.underlying42 hi hz0 hz1 hz2 rfl (by decide) (.slice (some ⟨W0.heap.size, 0, none⟩) 0 0) 0 [] rfl (by exact O0.out) _ A L.length c (dartsV L) rfl (by exact R0.out) (dartsV_one L) (by unfold maxLen; omega) (by omega) ?_
       intro v1 w1 how1 hb1
       simp only [Nat.zero_add, List.nil_append] at how1
       have O1 := Lib.hid how1
       have A1 := Lib.hid (AA.out.at_ (hb1.block _ (by omega)))
       have D1 := Lib.hid (DD.out.at_ (hb1.block _ (by omega)))
       clear how1 hb1))
  obtain ⟨Av, cv, hv, hrv⟩ := O1.out.rds
  subst hv
  have B1 := Lib.hid O1.out.below
  have a0 := A1.out.cell (i := 0) rfl
  have a1 := A1.out.cell (i := 1) rfl
  have a2 := A1.out.cell (i := 2) rfl
  clear hrv
  by_cases ha : a ∈ L
  · obtain ⟨i1, i2⟩ := idxD_mem ha
    rw [i1] at HIa
    obtain ⟨k, gk⟩ : ∃ v, L.idxOf a = v := ⟨_, rfl⟩
    rw [gk] at HIa i2
    by_cases hd : d ∈ L
    · have e1 : setR L a d = L := by rw [setR, if_neg (fun h => h.2 hd)]
      obtain ⟨j1, j2⟩ := idxD_mem hd
      rw [j1] at HId
      obtain ⟨j, gj⟩ : ∃ v, L.idxOf d = v := ⟨_, rfl⟩
      rw [gj] at HId
      have E1 := Lib.hid e1
      clear e1 ha hd i1 j1 j2 gk gj
      go_wp2_with (first
        | (go_at_call 34; have _t := tok; refine (HIa.out _ (by exact HR.out.up B1.out B1.out.size)).mono ?_; rintro e w2 ⟨rfl, hb2⟩; have O2 := Lib.hid (O1.out.up hb2); have D2 := Lib.hid (D1.out.below hb2); have q0 := D2.out.cell (i := 0) rfl; have q1 := D2.out.cell (i := 1) rfl; have q2 := D2.out.cell (i := 2) rfl; clear hb2 tok)
        | (go_at_call 34; refine (HId.out _ (by exact HR.out.up O2.out.below O2.out.below.size)).mono ?_; rintro e w3 ⟨rfl, hb3⟩; have O3 := Lib.hid (O2.out.up hb3); obtain ⟨A9, c9, hv9, hr9⟩ := O3.out.rds; cases hv9; have R3 := Lib.hid hr9; clear hb3 hr9)
        | (go_at_call 32; refine (HT.out _ _ _ _ _ (by exact R3.out) (by omega)).mono ?_; rintro e w4 ⟨A2, c2, rfl, hr3, hb4⟩))
      go_ret
      rw [E1.out]
      exact ⟨A2, c2, rfl, hr3, O3.out.below.trans (hb4.mono O3.out.below.size)⟩
    · have e1 : setR L a d = L.set k d := by rw [setR, if_pos ⟨ha, hd⟩, gk]
      rw [idxD_no hd] at HId
      have E1 := Lib.hid e1
      clear e1 i1 gk ha hd
      obtain ⟨g, cap, hvv, hBg, hlt⟩ := O1.out.own.form (by omega)
      cases hvv
      go_upto_region 4 with (first
        | (go_at_call 34; have _t := tok; refine (HIa.out _ (by exact HR.out.up B1.out B1.out.size)).mono ?_; rintro e w2 ⟨rfl, hb2⟩; have O2 := Lib.hid (O1.out.up hb2); have D2 := Lib.hid (D1.out.below hb2); have q0 := D2.out.cell (i := 0) rfl; have q1 := D2.out.cell (i := 1) rfl; have q2 := D2.out.cell (i := 2) rfl; clear hb2 tok)
        | (go_at_call 34; refine (HId.out _ (by exact HR.out.up O2.out.below O2.out.below.size)).mono ?_; rintro e w3 ⟨rfl, hb3⟩; have O3 := Lib.hid (O2.out.up hb3); have D3 := Lib.hid (D2.out.below hb3); have r0 := D3.out.cell (i := 0) rfl; have r1 := D3.out.cell (i := 1) rfl; have r2 := D3.out.cell (i := 2) rfl; clear hb3))
      obtain ⟨t1, t2, t3⟩ := dartsV_get L k i2
      have s1 := O3.out.own.cells (g := g) rfl _ _ t1
      have s2 := O3.out.own.cells (g := g) rfl _ _ t2
      have s3 := O3.out.own.cells (g := g) rfl _ _ t3
      simp only [Addr.add_lit, Nat.zero_add] at s1 s2 s3
      have z1 := O3.out.own.frozenAt (k * 3)
      have z2 := O3.out.own.frozenAt (k * 3 + 1)
      have z3 := O3.out.own.frozenAt (k * 3 + 2)
      go_wp2_with fail
      have OS : RowKit.Hid (Ow w (w.heap.size + 2) 46 3 (.slice (some ⟨g, 0, none⟩) L.length cv) L.length (dartsV (L.set k d)) (((w3.setCell ⟨g, k * 3, none⟩ (.int .i64 d.1)).setCell ⟨g, k * 3 + 1, none⟩ (.int .i64 d.2.1)).setCell ⟨g, k * 3 + 2, none⟩ (.int .i64 d.2.2))) :=
        ⟨own_set3 O3.out.own, ((O3.out.below.setCell (by show w.heap.size ≤ g; omega) _).setCell (by show w.heap.size ≤ g; omega) _).setCell (by show w.heap.size ≤ g; omega) _, O3.out.lo, by simpa [World.setCell] using O3.out.hi⟩
      obtain ⟨A9, c9, hv9, hr9⟩ := OS.out.rds
      cases hv9
      refine (HT.out _ _ _ _ _ (by exact hr9) (by omega)).mono ?_
      rintro e w4 ⟨A2, c2, rfl, hr3, hb4⟩
      go_wp2
      go_ret
      rw [E1.out]
      exact ⟨A2, c2, rfl, hr3, OS.out.below.trans (hb4.mono OS.out.below.size)⟩
  · have e1 : setR L a d = L := by rw [setR, if_neg (fun h => ha h.1)]
    rw [idxD_no ha] at HIa
    have E1 := Lib.hid e1
    clear e1 ha
    go_wp2_with (first
      | (go_at_call 34; have _t := tok; refine (HIa.out _ (by exact HR.out.up B1.out B1.out.size)).mono ?_; rintro e w2 ⟨rfl, hb2⟩; have O3 := Lib.hid (O1.out.up hb2); obtain ⟨A9, c9, hv9, hr9⟩ := O3.out.rds; cases hv9; have R3 := Lib.hid hr9; clear hb2 tok hr9)
      | (go_at_call 32; refine (HT.out _ _ _ _ _ (by exact R3.out) (by omega)).mono ?_; rintro e w4 ⟨A2, c2, rfl, hr3, hb4⟩))
    go_ret
    rw [E1.out]
    exact ⟨A2, c2, rfl, hr3, O3.out.below.trans (hb4.mono O3.out.below.size)⟩
end Go.Proofs.Ytgbkloilodgjfaa
