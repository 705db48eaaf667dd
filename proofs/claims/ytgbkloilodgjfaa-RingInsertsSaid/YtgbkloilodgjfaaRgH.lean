/- The document's own Insert, Swap of rings; the laws' darts, each once. -/
import Derived.Test.YtgbkloilodgjfaaRgG
namespace Go.Proofs.Ytgbkloilodgjfaa
open Go.RowKit
set_option linter.unusedSimpArgs false

/-- What the document's Insert has behind i rounds. -/
def insP (L : List D) (d : D) (j i : Nat) : List D := if i ≤ j then L.take i else L.take (j + 1) ++ d :: (L.take i).drop (j + 1)
theorem insP_lt {L : List D} {d : D} {j i : Nat} (h : i < L.length) (hj : i < j) : insP L d j (i + 1) = insP L d j i ++ [L.getD i (0, 0, 0)] := by
  rw [insP, insP, if_pos (by omega), if_pos (by omega), take_snocD L i h]
theorem insP_eq {L : List D} {d : D} {j : Nat} (h : j < L.length) : insP L d j (j + 1) = insP L d j j ++ [L.getD j (0, 0, 0)] ++ [d] := by
  rw [insP, insP, if_neg (by omega), if_pos (by omega), take_snocD L j h, List.drop_of_length_le (by simp; omega)]
theorem insP_gt {L : List D} {d : D} {j i : Nat} (h : i < L.length) (hj : j < i) : insP L d j (i + 1) = insP L d j i ++ [L.getD i (0, 0, 0)] := by
  rw [insP, insP, if_neg (by omega), if_neg (by omega), take_snocD L i h, List.drop_append_of_le_length (by simp; omega)]
  simp
theorem insP_len (L : List D) (d : D) (j i : Nat) : (insP L d j i).length ≤ L.length + 2 := by
  unfold insP
  split
  · have := List.length_take_le i L
    have : (L.take i).length ≤ L.length := by simp; omega
    omega
  · simp
    omega
theorem insP_all {L : List D} {d : D} {j : Nat} (h : j < L.length) : insP L d j L.length = L.take (j + 1) ++ d :: L.drop (j + 1) := by
  rw [insP, if_neg (by omega), List.take_length]

set_option maxRecDepth 100000 in
set_option maxHeartbeats 1000000 in
theorem rfinsert_any (A : Option Addr) (n c : Nat) (L : List D) (a d : D) (w : World) (h : RdS w w.heap.size 3 A n c (dartsV L)) (hn : n ≤ 999000) :
    Calls Try.prog 36 #[.slice A n c, .agg #[.int .i64 a.1, .int .i64 a.2.1, .int .i64 a.2.2], .agg #[.int .i64 d.1, .int .i64 d.2.1, .int .i64 d.2.2]] w (GivesR w (turnD (insR L a d))) := by
  obtain ⟨i0, hi, hz0, hz1, hz2⟩ := info_parts info_dart
  have HI := Lib.hid (fun x W h => rfindex_any A n c L x W h (by omega))
  have HT := Lib.hid (fun A n c L W h hn => rfturn_any A n c L W h hn)
  have HR := Lib.hid h
  have hl := h.dlen
  subst hl
  obtain ⟨W0, gW0⟩ : ∃ x, (w.alloc (.cells #[.int .i64 a.1, .int .i64 a.2.1, .int .i64 a.2.2] 46)).alloc (.cells #[.int .i64 d.1, .int .i64 d.2.1, .int .i64 d.2.2] 46) = x := ⟨_, rfl⟩
  have hb0 : Below w.heap.size w W0 := by rw [← gW0]; exact below2 _ _ _
  have hs0 : W0.heap.size = w.heap.size + 2 := by rw [← gW0]; simp
  have hA0 : Whole W0 w.heap.size 46 (dartsV [a]) := by rw [← gW0]; exact (Whole.new_ w _ (dartsV [a])).alloc _
  have hD0 : Whole W0 (w.heap.size + 1) 46 (dartsV [d]) := by
    rw [← gW0]
    exact Whole.new2 (cs := dartsV [d]) (by simp)
  have B0 := Lib.hid hb0
  have S0 := Lib.hid hs0
  have AA := Lib.hid hA0
  have DD := Lib.hid hD0
  have a0 := hA0.cell (i := 0) rfl
  have a1 := hA0.cell (i := 1) rfl
  have a2 := hA0.cell (i := 2) rfl
  have d0 := hD0.cell (i := 0) rfl
  have d1 := hD0.cell (i := 1) rfl
  have d2 := hD0.cell (i := 2) rfl
  have GW := Lib.hid gW0
  have HIa := Lib.hid (HI.out a)
  have HId := Lib.hid (HI.out d)
  have tok : True := trivial
  clear h gW0 hb0 hA0 hD0 HI hs0
  by_cases hd : d ∈ L
  · have e1 : insR L a d = L := by rw [insR, if_pos hd]
    obtain ⟨i1, i2⟩ := idxD_mem hd
    rw [i1] at HId
    obtain ⟨k, gk⟩ : ∃ v, L.idxOf d = v := ⟨_, rfl⟩
    rw [gk] at HId
    have E1 := Lib.hid e1
    clear e1 i1 i2 gk hd
    go_enter Try.func36, Try.ntmps36
    go_upto_region 1 with fail
    rw [GW.out]
    go_wp2_with (first
      | (go_at_call 34; refine (HId.out _ (by exact HR.out.up B0.out B0.out.size)).mono ?_; rintro e w2 ⟨rfl, hb2⟩; have B2 := Lib.hid (B0.out.trans (hb2.mono B0.out.size)); clear hb2)
      | (go_at_call 32; refine (HT.out _ _ _ _ _ (by exact HR.out.up B2.out B2.out.size) (by omega)).mono ?_; rintro e w3 ⟨A2, c2, rfl, hr3, hb3⟩))
    go_ret
    rw [E1.out]
    exact ⟨A2, c2, rfl, hr3, B2.out.trans (hb3.mono B2.out.size)⟩
  · have e1 : insR L a d = L.take ((max (idxD L a) 0).toNat + 1) ++ d :: L.drop ((max (idxD L a) 0).toNat + 1) := by rw [insR, if_neg hd]
    rw [idxD_no hd] at HId
    obtain ⟨i1, i2, i3, i4⟩ := idxD_bd L a
    obtain ⟨k, gk⟩ : ∃ v, idxD L a = v := ⟨_, rfl⟩
    rw [gk] at HIa e1 i1 i2 i4
    have hkk : ∃ j : Nat, max k 0 = (j : Int) ∧ (0 < L.length → j < L.length) := ⟨(max k 0).toNat, by omega, by omega⟩
    obtain ⟨j, hj, hj2⟩ := hkk
    rw [hj, Int.toNat_natCast] at e1
    have E1 := Lib.hid e1
    have HJ := Lib.hid hj
    have HJ2 := Lib.hid hj2
    have hkb : k ≤ 1000000 := by omega
    clear e1 i2 i3 i4 gk hd hj hj2
    go_enter Try.func36, Try.ntmps36
    go_upto_region 1 with fail
    rw [GW.out]
    go_upto_region 3 with (first
      | (go_at_call 34; have _t := tok; refine (HId.out _ (by exact HR.out.up B0.out B0.out.size)).mono ?_; rintro e w2 ⟨rfl, hb2⟩; have B2 := Lib.hid (B0.out.trans (hb2.mono B0.out.size)); have S2 := Lib.hid hb2.size; have A2 := Lib.hid (AA.out.below hb2); have D2 := Lib.hid (DD.out.below hb2); have q0 := A2.out.cell (i := 0) rfl; have q1 := A2.out.cell (i := 1) rfl; have q2 := A2.out.cell (i := 2) rfl; clear hb2 tok))
    clear a0 a1 a2 d0 d1 d2
    go_cut [7] (fun v x => v = .int .i64 (j : Int) ∧ Below w.heap.size w x ∧ w.heap.size + 2 ≤ x.heap.size ∧ Whole x (w.heap.size + 1) 46 (dartsV [d]))
    case first =>
      by_cases hk0 : 0 < k
      · have hk1 : k = j := by have := HJ.out; omega
        have HK1 := Lib.hid hk1
        clear hk1
        go_wp2_with (first
          | (go_at_call 34; refine (HIa.out _ (by exact HR.out.up B2.out B2.out.size)).mono ?_; rintro e w3 ⟨rfl, hb3⟩; have B3 := Lib.hid (B2.out.trans (hb3.mono B2.out.size)); have S3 := Lib.hid hb3.size; have D3 := Lib.hid (D2.out.below hb3); clear hb3))
        go_meet
        exact ⟨by rw [HK1.out], B3.out, by have := S0.out; have := S2.out; have := S3.out; omega, D3.out⟩
      · have hk1 : (0 : Int) = j := by have := HJ.out; omega
        have HK1 := Lib.hid hk1
        clear hk1
        go_wp2_with (first
          | (go_at_call 34; refine (HIa.out _ (by exact HR.out.up B2.out B2.out.size)).mono ?_; rintro e w3 ⟨rfl, hb3⟩; have B3 := Lib.hid (B2.out.trans (hb3.mono B2.out.size)); have S3 := Lib.hid hb3.size; have D3 := Lib.hid (D2.out.below hb3); clear hb3))
        go_meet
        exact ⟨by rw [HK1.out], B3.out, by have := S0.out; have := S2.out; have := S3.out; omega, D3.out⟩
    case rest =>
    obtain ⟨rfl, hbc, hsc, hdc⟩ := hcut
    have hO0 := Lib.hid (Ow.new_ (e := 46) (size := 3) (cs := #[]) hbc (B := w.heap.size + 2) (by omega) hsc (n := 0) (Nat.zero_le _) rfl)
    have hD0 := Lib.hid (Whole.alloc hdc (.cells #[] 46))
    clear hbc hsc hdc q0 q1 q2
    obtain ⟨W1, rfl⟩ : ∃ x : World, x = wc := ⟨_, rfl⟩
    go_wp2
    go_loopw [8, 9] (fun v i wr => ∃ k : Nat, k ≤ L.length ∧ i = .int .i64 k ∧ Ow w (w.heap.size + 2) 46 3 v (insP L d j k).length (dartsV (insP L d j k)) wr ∧ Whole wr (w.heap.size + 1) 46 (dartsV [d])) (fun _ i _ => L.length - (intOf i).toNat)
    case atStart => exact ⟨0, Nat.zero_le _, rfl, hO0.out, hD0.out⟩
    case round =>
      clear hO0 hD0
      obtain ⟨i, hil, rfl, how, hd⟩ := hrel
      have HO := Lib.hid how
      have HD := Lib.hid hd
      have hlen := insP_len L d j i
      by_cases hlt : i < L.length
      · obtain ⟨b, off, rfl, hb, hc⟩ := (HR.out.up how.below how.below.size).darts (by omega)
        obtain ⟨c1, c2, c3⟩ := hc i hlt
        have hlt' := HJ2.out (by omega)
        have p1 : i < j → insP L d j (i + 1) = insP L d j i ++ [L.getD i (0, 0, 0)] := fun h => insP_lt hlt h
        have p2 : i = j → insP L d j (i + 1) = insP L d j i ++ [L.getD i (0, 0, 0)] ++ [d] := fun h => by subst h; exact insP_eq hlt
        have p3 : j < i → insP L d j (i + 1) = insP L d j i ++ [L.getD i (0, 0, 0)] := fun h => insP_gt hlt h
        obtain ⟨x, gx⟩ : ∃ v, L.getD i (0, 0, 0) = v := ⟨_, rfl⟩
        rw [gx] at c1 c2 c3 p1 p2 p3
        obtain ⟨F, gF⟩ : ∃ v, insP L d j i = v := ⟨_, rfl⟩
        rw [gF] at HO p1 p2 p3 hlen
        have P1 := Lib.hid p1
        have P2 := Lib.hid p2
        have P3 := Lib.hid p3
        have tokp : True := trivial
        clear hc how gx gF p1 p2 p3 hd
        by_cases hij : i = j
        · have hij' : ((i : Int) == (j : Int)) = true := by rw [beq_iff_eq]; omega
          have hp := Lib.hid (P2.out hij)
          have HIJ := Lib.hid hij
          clear hij
          go_wp2_with (first
            | (at_builtin
               have _t := tokp
               refine wpList_push rfl (.tmp 27) (.tmp 32) _ rfl _ 46 i0 _ 3 24 Try.underlying42 hi hz0 hz1 hz2 rfl (by decide) _ _ _ rfl (by exact HO.out.up (below1 _ _)) _ (some ⟨wr.heap.size, 0, none⟩) 1 1 (dartsV [x]) rfl (by exact RdS.whole3 (L := [x]) (Whole.new2 (by simp))) (dartsV_one [x]) (by unfold maxLen; omega) (by omega) ?_
               intro v1 w1 how1 hb1
               have HO1 := Lib.hid how1
               have HD1 : RowKit.Hid (Whole w1 (w.heap.size + 1) 46 (dartsV [d])) := (Whole.at_ (Whole.alloc HD.out _) (hb1.block _ (by omega)))
               have r0 := HD1.out.cell (i := 0) rfl
               have r1 := HD1.out.cell (i := 1) rfl
               have r2 := HD1.out.cell (i := 2) rfl
               clear how1 hb1 tokp)
            | (at_builtin
               refine wpList_push rfl (.tmp 37) (.tmp 39) _ rfl _ 46 i0 _ 3 24 Try.underlying42 hi hz0 hz1 hz2 rfl (by decide) _ _ _ rfl (by exact HO1.out.up (below1 _ _)) _ (some ⟨w1.heap.size, 0, none⟩) 1 1 (dartsV [d]) rfl (by exact RdS.whole3 (L := [d]) (Whole.new2 (by simp))) (dartsV_one [d]) (by unfold maxLen; omega) (by omega) ?_
               intro v2 w2 how2 hb2
               have HO2 := Lib.hid how2
               have HD2 : RowKit.Hid (Whole w2 (w.heap.size + 1) 46 (dartsV [d])) := (Whole.at_ (Whole.alloc HD1.out _) (hb2.block _ (by omega)))
               clear how2 hb2))
          go_roundw
          case rel =>
            refine ⟨i + 1, by omega, by go_num, ?_, HD2.out⟩
            have h := HO2.out
            rw [hp.out, List.length_append, List.length_append, dartsV_app, dartsV_app]
            exact h
          case measure => simp [intOf]; omega
        · have hij' : ((i : Int) == (j : Int)) = false := by rw [beq_eq_false_iff_ne]; omega
          have hp := Lib.hid (show insP L d j (i + 1) = F ++ [x] by rcases Nat.lt_or_gt_of_ne hij with h | h; exact P1.out h; exact P3.out h)
          clear hij
          go_wp2_with (first
            | (at_builtin
               refine wpList_push rfl (.tmp 27) (.tmp 32) _ rfl _ 46 i0 _ 3 24 Try.underlying42 hi hz0 hz1 hz2 rfl (by decide) _ _ _ rfl (by exact HO.out.up (below1 _ _)) _ (some ⟨wr.heap.size, 0, none⟩) 1 1 (dartsV [x]) rfl (by exact RdS.whole3 (L := [x]) (Whole.new2 (by simp))) (dartsV_one [x]) (by unfold maxLen; omega) (by omega) ?_
               intro v1 w1 how1 hb1
               have HO1 := Lib.hid how1
               have HD1 : RowKit.Hid (Whole w1 (w.heap.size + 1) 46 (dartsV [d])) := (Whole.at_ (Whole.alloc HD.out _) (hb1.block _ (by omega)))
               clear how1 hb1))
          go_roundw
          case rel =>
            refine ⟨i + 1, by omega, by go_num, ?_, HD1.out⟩
            rw [hp.out, List.length_append, dartsV_app]
            exact HO1.out
          case measure => simp [intOf]; omega
      · have hiL : i = L.length := by omega
        subst hiL
        by_cases h0 : L.length = 0
        · have hL : L = [] := List.eq_nil_of_length_eq_zero h0
          subst hL
          have e0 : insP [] d j ([] : List D).length = [] := by simp [insP]
          rw [e0] at HO
          have r0 := hd.cell (i := 0) rfl
          have r1 := hd.cell (i := 1) rfl
          have r2 := hd.cell (i := 2) rfl
          have e2 : insR [] a d = [d] := by rw [E1.out]; simp
          have E2 := Lib.hid e2
          clear how hd hlen e0 e2 h0
          go_wp2_with (first
            | (at_builtin
               refine wpList_push rfl (.tmp 44) (.tmp 46) _ rfl _ 46 i0 _ 3 24 Try.underlying42 hi hz0 hz1 hz2 rfl (by decide) _ _ _ rfl (by exact HO.out.up (below1 _ _)) _ (some ⟨wr.heap.size, 0, none⟩) 1 1 (dartsV [d]) rfl (by exact RdS.whole3 (L := [d]) (Whole.new2 (by simp))) (dartsV_one [d]) (by unfold maxLen; simp) (by simp) ?_
               intro v1 w1 how1 hb1
               have HO1 : RowKit.Hid (Ow w (w.heap.size + 2) 46 3 v1 [d].length (dartsV [d]) w1) := how1
               clear how1 hb1
               obtain ⟨A1, c1, hv, hr1⟩ := HO1.out.rds
               subst hv
               have HR1 := Lib.hid hr1
               clear hr1)
            | (go_at_call 32; refine (HT.out _ _ _ _ _ (by exact HR1.out) (by decide)).mono ?_; rintro e w2 ⟨A2, c2, rfl, hr2, hb2⟩; have HB2 := Lib.hid hb2; have R2 := Lib.hid hr2; clear hb2 hr2))
          go_ret
          rw [E2.out]
          exact ⟨A2, c2, rfl, R2.out, HO1.out.below.trans (HB2.out.mono HO1.out.below.size)⟩
        · have e0 : insP L d j L.length = insR L a d := by rw [E1.out, insP_all (HJ2.out (by omega))]
          rw [e0] at HO hlen
          have hne : ((L.length : Int) == 0) = false := by simpa using h0
          obtain ⟨F, gF⟩ : ∃ v, insR L a d = v := ⟨_, rfl⟩
          rw [gF] at HO hlen
          have GF := Lib.hid gF
          clear how hd e0 h0 gF
          obtain ⟨A1, c1, hv, hr1⟩ := HO.out.rds
          subst hv
          have HR1 := Lib.hid hr1
          clear hr1
          go_wp2_with (first
            | (go_at_call 32; refine (HT.out _ _ _ _ _ (by exact HR1.out) (by omega)).mono ?_; rintro e w2 ⟨A2, c2, rfl, hr2, hb2⟩; have HB2 := Lib.hid hb2; have R2 := Lib.hid hr2; clear hb2 hr2))
          go_ret
          rw [GF.out]
          exact ⟨A2, c2, rfl, R2.out, HO.out.below.trans (HB2.out.mono HO.out.below.size)⟩

/-- Darts, each once. -/
def onceF (l : List D) : List D := l.foldl (fun acc x => if x ∈ acc then acc else acc ++ [x]) []
theorem onceF_snoc (l : List D) (k : Nat) (h : k < l.length) : onceF (l.take (k + 1)) = if l.getD k (0, 0, 0) ∈ onceF (l.take k) then onceF (l.take k) else onceF (l.take k) ++ [l.getD k (0, 0, 0)] := by
  rw [onceF, take_snocD l k h, List.foldl_append]
  rfl
theorem onceF_go (l : List D) : ∀ acc : List D, acc.Nodup → (l.foldl (fun acc x => if x ∈ acc then acc else acc ++ [x]) acc).length ≤ acc.length + l.length ∧ (l.foldl (fun acc x => if x ∈ acc then acc else acc ++ [x]) acc).Nodup := by
  induction l with
  | nil => intro acc h; exact ⟨by simp, h⟩
  | cons x l ih =>
    intro acc h
    rw [List.foldl_cons]
    by_cases e : x ∈ acc
    · rw [if_pos e]
      have := ih acc h
      exact ⟨by simp; omega, this.2⟩
    · rw [if_neg e]
      have hn : (acc ++ [x]).Nodup := by
        rw [List.nodup_append]
        refine ⟨h, by simp, ?_⟩
        intro a ha b hb
        obtain rfl := List.mem_singleton.1 hb
        exact fun q => e (q ▸ ha)
      have := ih _ hn
      exact ⟨by simp at this ⊢; omega, this.2⟩
theorem onceF_len (l : List D) : (onceF l).length ≤ l.length ∧ (onceF l).Nodup := by
  have := onceF_go l [] (by simp)
  exact ⟨by simpa [onceF] using this.1, this.2⟩
end Go.Proofs.Ytgbkloilodgjfaa
