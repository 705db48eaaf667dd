/- The document's own Next, Prev, Insert, Remove, Swap, Same of rings. -/
import Derived.Test.YtgbkloilodgjfaaRgF
namespace Go.Proofs.Ytgbkloilodgjfaa
open Go.RowKit
set_option linter.unusedSimpArgs false

theorem rfnext_any (A : Option Addr) (n c : Nat) (L : List D) (d : D) (w : World) (h : RdS w w.heap.size 3 A n c (dartsV L)) (hn : n ≤ 1000000) :
    Calls Try.prog 27 #[.slice A n c, .agg #[.int .i64 d.1, .int .i64 d.2.1, .int .i64 d.2.2]] w (GivesD w (nextD L d) (decide (d ∈ L))) := by
  have HI := Lib.hid (fun W h => rfindex_any A n c L d W h (by omega))
  have H := Lib.hid h
  have hl := h.dlen
  by_cases hd : d ∈ L
  · obtain ⟨e1, e2⟩ := idxD_mem hd
    rw [e1] at HI
    obtain ⟨k, gk⟩ : ∃ v, L.idxOf d = v := ⟨_, rfl⟩
    have hkn : k < n := by omega
    have hs : nextD L d = L.getD ((k + 1) % n) (0, 0, 0) := by rw [nextD, stepD, if_pos hd, gk, hl]
    rw [gk] at HI e2
    obtain ⟨b, off, rfl, hb, hc⟩ := h.darts (by omega)
    have hj : (k + 1) % n < n := Nat.mod_lt _ (by omega)
    have hmod : ((k : Int) + 1) % (n : Int) = (((k + 1) % n : Nat) : Int) := by rw [Int.natCast_emod, Int.natCast_add]; rfl
    obtain ⟨j, gj⟩ : ∃ v, (k + 1) % n = v := ⟨_, rfl⟩
    rw [gj] at hs hj hmod
    obtain ⟨c1, c2, c3⟩ := hc j (by omega)
    obtain ⟨x, gx⟩ : ∃ v, L.getD j (0, 0, 0) = v := ⟨_, rfl⟩
    rw [gx] at hs c1 c2 c3
    rw [hs, decide_eq_true hd]
    have C1 := Lib.hid c1
    have C2 := Lib.hid c2
    have C3 := Lib.hid c3
    clear hs gx gj hc hd gk e1 e2 h hl c1 c2 c3
    go_enter Try.func27, Try.ntmps27
    go_wp2_with (first
      | (go_at_call 34; refine (HI.out _ (by exact H.out.up (below2 _ _ _) (by simp <;> omega))).mono ?_; rintro e w2 ⟨rfl, hb2⟩
         have HB := Lib.hid (below_after2 hb2)
         have d1 := (HB.out.cell (p := ⟨b, off + j * 3, none⟩) hb).trans C1.out
         have d2 := (HB.out.cell (p := ⟨b, off + j * 3 + 1, none⟩) hb).trans C2.out
         have d3 := (HB.out.cell (p := ⟨b, off + j * 3 + 2, none⟩) hb).trans C3.out
         have hz := (Whole.new_ (w.alloc (.cells #[.int .i64 d.1, .int .i64 d.2.1, .int .i64 d.2.2] 46)) 46 [.int .i64 0, .int .i64 0, .int .i64 0]).below hb2
         simp only [World.size_alloc] at hz
         have z0 := hz.cell (i := 0) rfl
         have z1 := hz.cell (i := 1) rfl
         have z2 := hz.cell (i := 2) rfl
         have y0 := hz.free 0
         have y1 := hz.free 1
         have y2 := hz.free 2
         clear hb2 hz))
    exact bodyPost_ret (v := .tuple #[.agg #[.int .i64 x.1, .int .i64 x.2.1, .int .i64 x.2.2], .bool true]) (by simp [results, Try.results27, go_sem, z0, z1, z2]) rfl ⟨rfl, ((HB.out.setCell (by simp) _).setCell (by simp) _).setCell (by simp) _⟩
  · have hs : nextD L d = (0, 0, 0) := by rw [nextD, stepD, if_neg hd]
    rw [idxD_no hd] at HI
    rw [hs, decide_eq_false hd]
    clear hs h hd hl
    go_enter Try.func27, Try.ntmps27
    go_wp2_with (first
      | (go_at_call 34; refine (HI.out _ (by exact H.out.up (below2 _ _ _) (by simp <;> omega))).mono ?_; rintro e w2 ⟨rfl, hb2⟩
         have HB := Lib.hid (below_after2 hb2)
         have hz := (Whole.new_ (w.alloc (.cells #[.int .i64 d.1, .int .i64 d.2.1, .int .i64 d.2.2] 46)) 46 [.int .i64 0, .int .i64 0, .int .i64 0]).below hb2
         simp only [World.size_alloc] at hz
         have z0 := hz.cell (i := 0) rfl
         have z1 := hz.cell (i := 1) rfl
         have z2 := hz.cell (i := 2) rfl
         have y0 := hz.free 0
         have y1 := hz.free 1
         have y2 := hz.free 2
         clear hb2 hz))
    exact bodyPost_ret (v := .tuple #[.agg #[.int .i64 0, .int .i64 0, .int .i64 0], .bool false]) (by simp [results, Try.results27, go_sem, z0, z1, z2]) rfl ⟨rfl, ((HB.out.setCell (by simp) _).setCell (by simp) _).setCell (by simp) _⟩

theorem rfprev_any (A : Option Addr) (n c : Nat) (L : List D) (d : D) (w : World) (h : RdS w w.heap.size 3 A n c (dartsV L)) (hn : n ≤ 1000000) :
    Calls Try.prog 29 #[.slice A n c, .agg #[.int .i64 d.1, .int .i64 d.2.1, .int .i64 d.2.2]] w (GivesD w (prevD L d) (decide (d ∈ L))) := by
  have HI := Lib.hid (fun W h => rfindex_any A n c L d W h (by omega))
  have H := Lib.hid h
  have hl := h.dlen
  by_cases hd : d ∈ L
  · obtain ⟨e1, e2⟩ := idxD_mem hd
    rw [e1] at HI
    obtain ⟨k, gk⟩ : ∃ v, L.idxOf d = v := ⟨_, rfl⟩
    have hkn : k < n := by omega
    have hs : prevD L d = L.getD ((k + n - 1) % n) (0, 0, 0) := by rw [prevD, stepD, if_pos hd, gk, hl, show k + (n - 1) = k + n - 1 by omega]
    rw [gk] at HI e2
    obtain ⟨b, off, rfl, hb, hc⟩ := h.darts (by omega)
    have hj : (k + n - 1) % n < n := Nat.mod_lt _ (by omega)
    have hmod : ((k : Int) + (n : Int) - 1) % (n : Int) = (((k + n - 1) % n : Nat) : Int) := by rw [Int.natCast_emod]; congr 1; omega
    obtain ⟨j, gj⟩ : ∃ v, (k + n - 1) % n = v := ⟨_, rfl⟩
    rw [gj] at hs hj hmod
    obtain ⟨c1, c2, c3⟩ := hc j (by omega)
    obtain ⟨x, gx⟩ : ∃ v, L.getD j (0, 0, 0) = v := ⟨_, rfl⟩
    rw [gx] at hs c1 c2 c3
    rw [hs, decide_eq_true hd]
    have C1 := Lib.hid c1
    have C2 := Lib.hid c2
    have C3 := Lib.hid c3
    clear hs gx gj hc hd gk e1 e2 h hl c1 c2 c3
    go_enter Try.func29, Try.ntmps29
    go_wp2_with (first
      | (go_at_call 34; refine (HI.out _ (by exact H.out.up (below2 _ _ _) (by simp <;> omega))).mono ?_; rintro e w2 ⟨rfl, hb2⟩
         have HB := Lib.hid (below_after2 hb2)
         have d1 := (HB.out.cell (p := ⟨b, off + j * 3, none⟩) hb).trans C1.out
         have d2 := (HB.out.cell (p := ⟨b, off + j * 3 + 1, none⟩) hb).trans C2.out
         have d3 := (HB.out.cell (p := ⟨b, off + j * 3 + 2, none⟩) hb).trans C3.out
         have hz := (Whole.new_ (w.alloc (.cells #[.int .i64 d.1, .int .i64 d.2.1, .int .i64 d.2.2] 46)) 46 [.int .i64 0, .int .i64 0, .int .i64 0]).below hb2
         simp only [World.size_alloc] at hz
         have z0 := hz.cell (i := 0) rfl
         have z1 := hz.cell (i := 1) rfl
         have z2 := hz.cell (i := 2) rfl
         have y0 := hz.free 0
         have y1 := hz.free 1
         have y2 := hz.free 2
         clear hb2 hz))
    exact bodyPost_ret (v := .tuple #[.agg #[.int .i64 x.1, .int .i64 x.2.1, .int .i64 x.2.2], .bool true]) (by simp [results, Try.results29, go_sem, z0, z1, z2]) rfl ⟨rfl, ((HB.out.setCell (by simp) _).setCell (by simp) _).setCell (by simp) _⟩
  · have hs : prevD L d = (0, 0, 0) := by rw [prevD, stepD, if_neg hd]
    rw [idxD_no hd] at HI
    rw [hs, decide_eq_false hd]
    clear hs h hd hl
    go_enter Try.func29, Try.ntmps29
    go_wp2_with (first
      | (go_at_call 34; refine (HI.out _ (by exact H.out.up (below2 _ _ _) (by simp <;> omega))).mono ?_; rintro e w2 ⟨rfl, hb2⟩
         have HB := Lib.hid (below_after2 hb2)
         have hz := (Whole.new_ (w.alloc (.cells #[.int .i64 d.1, .int .i64 d.2.1, .int .i64 d.2.2] 46)) 46 [.int .i64 0, .int .i64 0, .int .i64 0]).below hb2
         simp only [World.size_alloc] at hz
         have z0 := hz.cell (i := 0) rfl
         have z1 := hz.cell (i := 1) rfl
         have z2 := hz.cell (i := 2) rfl
         have y0 := hz.free 0
         have y1 := hz.free 1
         have y2 := hz.free 2
         clear hb2 hz))
    exact bodyPost_ret (v := .tuple #[.agg #[.int .i64 0, .int .i64 0, .int .i64 0], .bool false]) (by simp [results, Try.results29, go_sem, z0, z1, z2]) rfl ⟨rfl, ((HB.out.setCell (by simp) _).setCell (by simp) _).setCell (by simp) _⟩

theorem rfsame_any (A A' : Option Addr) (n m c c' : Nat) (L M : List D) (w : World) (h : RdS w w.heap.size 3 A n c (dartsV L)) (h' : RdS w w.heap.size 3 A' m c' (dartsV M)) (hn : n ≤ 1000000) (hm : m ≤ 1000000) :
    Calls Try.prog 42 #[.slice A n c, .slice A' m c'] w fun e w' => e = .returned (.bool (decide (turnD L = turnD M))) ∧ Below w.heap.size w w' := by
  have HT := Lib.hid (fun W h => rfturn_any A n c L W h hn)
  have HT' := Lib.hid (fun W h => rfturn_any A' m c' M W h hm)
  have HE := Lib.hid (fun A1 A2 c1 c2 W h1 h2 => rdarts_any A1 A2 (turnD L).length (turnD M).length c1 c2 (turnD L) (turnD M) W h1 h2 (by rw [turnD_length, h.dlen]; omega))
  have H := Lib.hid h
  have H' := Lib.hid h'
  clear h h'
  have tok : True := trivial
  go_enter Try.func42, Try.ntmps42
  go_wp2_with (first
    | (go_at_call 32; have _t := tok; refine (HT.out _ (by exact H.out)).mono ?_; rintro e w2 ⟨A2, c2, rfl, hr2, hb2⟩; have HB2 := Lib.hid hb2; have R2 := Lib.hid hr2; clear hb2 hr2 tok)
    | (go_at_call 32; refine (HT'.out _ (by exact H'.out.up HB2.out HB2.out.size)).mono ?_; rintro e w3 ⟨A3, c3, rfl, hr3, hb3⟩; have HB3 := Lib.hid hb3; have R3 := Lib.hid hr3; clear hb3 hr3)
    | (go_at_call 30; refine (HE.out _ _ _ _ _ (by exact R2.out.up HB3.out HB3.out.size) (by exact R3.out)).mono ?_; rintro e w4 ⟨rfl, hb4⟩))
  go_ret
  exact ⟨rfl, (HB2.out.trans (HB3.out.mono HB2.out.size)).trans (hb4.mono (Nat.le_trans HB2.out.size HB3.out.size))⟩

theorem below_drewN (B : Nat) (w : World) (n : Nat) : Below B w (w.drewN n) := ⟨rfl, rfl, rfl, Nat.le_refl _, fun _ _ => rfl⟩
theorem filter_snoc (L : List D) (d : D) (k : Nat) (h : k < L.length) : (L.take (k + 1)).filter (fun x => decide (x ≠ d)) = (L.take k).filter (fun x => decide (x ≠ d)) ++ if L.getD k (0, 0, 0) = d then [] else [L.getD k (0, 0, 0)] := by
  rw [take_snocD L k h, List.filter_append]
  generalize L.getD k (0, 0, 0) = x
  by_cases e : x = d
  · rw [if_pos e]
    simp [e]
  · rw [if_neg e]
    simp [e]

/-- What the document's Remove leaves ahead of its Turn. -/
def filD (L : List D) (d : D) : List D := L.filter fun x => decide (x ≠ d)

set_option maxRecDepth 100000 in
set_option maxHeartbeats 1000000 in
theorem rfremove_any (A : Option Addr) (n c : Nat) (L : List D) (d : D) (w : World) (h : RdS w w.heap.size 3 A n c (dartsV L)) (hn : n ≤ 999000) :
    Calls Try.prog 38 #[.slice A n c, .agg #[.int .i64 d.1, .int .i64 d.2.1, .int .i64 d.2.2]] w (GivesR w (turnD (filD L d))) := by
  obtain ⟨i0, hi, hz0, hz1, hz2⟩ := info_parts info_dart
  have HT := Lib.hid (fun A n c L W h hn => rfturn_any A n c L W h hn)
  have HR := Lib.hid h
  have hl := h.dlen
  subst hl
  have h00 : (Ow w (w.heap.size + 1) 46 3 (.slice (some ⟨w.heap.size + 1, 0, none⟩) 0 0) 0 [] ((w.alloc (.cells #[.int .i64 d.1, .int .i64 d.2.1, .int .i64 d.2.2] 46)).alloc (.cells #[] 46))) := by
    have := Ow.new_ (e := 46) (size := 3) (cs := #[]) (below1 w (.cells #[.int .i64 d.1, .int .i64 d.2.1, .int .i64 d.2.2] 46)) (B := w.heap.size + 1) (by omega) (by simp) (n := 0) (Nat.zero_le _) rfl
    simpa using this
  have hO0 := Lib.hid h00
  have hD0 : RowKit.Hid (Whole ((w.alloc (.cells #[.int .i64 d.1, .int .i64 d.2.1, .int .i64 d.2.2] 46)).alloc (.cells #[] 46)) w.heap.size 46 (dartsV [d])) := (Whole.new_ w _ (dartsV [d])).alloc _
  clear h h00
  go_enter Try.func38, Try.ntmps38
  go_wp2
  go_loopw [5, 6] (fun v i wr => ∃ k : Nat, k ≤ L.length ∧ i = .int .i64 k ∧ Ow w (w.heap.size + 1) 46 3 v ((L.take k).filter (fun x => decide (x ≠ d))).length (dartsV ((L.take k).filter (fun x => decide (x ≠ d)))) wr ∧ Whole wr w.heap.size 46 (dartsV [d])) (fun _ i _ => L.length - (intOf i).toNat)
  case atStart => exact ⟨0, Nat.zero_le _, rfl, hO0.out, hD0.out⟩
  case round =>
    clear hO0 hD0
    obtain ⟨k, hk, rfl, how, hd⟩ := hrel
    have HO := Lib.hid how
    have HD := Lib.hid hd
    by_cases hlt : k < L.length
    · obtain ⟨b, off, rfl, hb, hc⟩ := (HR.out.up how.below how.below.size).darts (by omega)
      obtain ⟨c1, c2, c3⟩ := hc k hlt
      have hfl : ((L.take k).filter (fun x => decide (x ≠ d))).length ≤ 1000000 := by
        have := List.length_filter_le (fun x => decide (x ≠ d)) (L.take k)
        have := List.length_take_le k L
        omega
      have hf := filter_snoc L d k hlt
      obtain ⟨x, gx⟩ : ∃ v, L.getD k (0, 0, 0) = v := ⟨_, rfl⟩
      rw [gx] at c1 c2 c3 hf
      have d0 := hd.cell (i := 0) rfl
      have d1 := hd.cell (i := 1) rfl
      have d2 := hd.cell (i := 2) rfl
      have hq := neq_dart_run x d
      obtain ⟨F, gF⟩ : ∃ v, (L.take k).filter (fun x => decide (x ≠ d)) = v := ⟨_, rfl⟩
      rw [gF] at HO hf hfl
      have HF := Lib.hid hf
      clear hc how gx gF hf hd
      by_cases he : x = d
      · have he' : (!decide (x = d)) = false := by simpa using he
        rw [he'] at hq
        rw [if_pos he, List.append_nil] at HF
        clear he he'
        go_wp2
        go_quiet (fail)
        go_wp2
        go_roundw
        case rel =>
          refine ⟨k + 1, by omega, by go_num, ?_, HD.out.at_ rfl⟩
          rw [HF.out]
          exact HO.out.up (below_drewN _ _ _)
        case measure => simp [intOf]; omega
      · have he' : (!decide (x = d)) = true := by simpa using he
        rw [he'] at hq
        rw [if_neg he] at HF
        clear he he'
        go_wp2
        go_quiet (fail)
        go_wp2_with (first
          | (at_builtin
             refine wpList_push rfl (.tmp 20) (.tmp 25) _ rfl _ 46 i0 _ 3 24 Try.underlying42 hi hz0 hz1 hz2 rfl (by decide) _ _ _ rfl (by exact (HO.out.up (below_drewN _ _ _)).up (below1 _ _)) _ (some ⟨wr.heap.size, 0, none⟩) 1 1 (dartsV [x]) rfl (by exact RdS.whole3 (L := [x]) (Whole.new2 (by simp))) (dartsV_one [x]) (by unfold maxLen; omega) (by omega) ?_
             intro v1 w1 how1 hb1
             have HO1 := Lib.hid how1
             have HD1 : RowKit.Hid (Whole w1 w.heap.size 46 (dartsV [d])) := (Whole.at_ (Whole.alloc (HD.out.at_ rfl) _) (hb1.block _ (by omega)))
             clear how1 hb1))
        go_roundw
        case rel =>
          refine ⟨k + 1, by omega, by go_num, ?_, HD1.out⟩
          rw [HF.out, List.length_append, dartsV_app]
          exact HO1.out
        case measure => simp [intOf]; omega
    · have htk : (L.take k).filter (fun x => decide (x ≠ d)) = filD L d := by rw [List.take_of_length_le (by omega)]; rfl
      rw [htk] at HO
      have hfl : (filD L d).length ≤ 1000000 := by
        have := List.length_filter_le (fun x => decide (x ≠ d)) L
        unfold filD
        omega
      clear how htk hd
      obtain ⟨A1, c1, hv, hr1⟩ := HO.out.rds
      subst hv
      have HR1 := Lib.hid hr1
      clear hr1
      go_wp2_with (first
        | (go_at_call 32; refine (HT.out _ _ _ _ _ (by exact HR1.out) hfl).mono ?_; rintro e w2 ⟨A2, c2, rfl, hr2, hb2⟩; have HB2 := Lib.hid hb2; have R2 := Lib.hid hr2; clear hb2 hr2))
      go_ret
      exact ⟨A2, c2, rfl, R2.out, HO.out.below.trans (HB2.out.mono HO.out.below.size)⟩
end Go.Proofs.Ytgbkloilodgjfaa
