/- The document's answer for Take. -/
import Derived.Test.YtedihfggijcciaaIdI
namespace Go.Proofs.Ytedihfggijcciaa
open Go.RowKit
set_option linter.unusedSimpArgs false
set_option linter.unusedVariables false

/-- The call answers this name, a slice that reads as these bytes, this bool. -/
def GivesR (w : World) (x : Int × Int) (bs : List Int) (ok : Bool) (e : Ending) (w' : World) : Prop :=
  ∃ (A : Option Addr) (n c : Nat), e = .returned (.tuple #[.agg #[.int .i64 x.1, .int .i64 x.2], .slice A n c, .bool ok]) ∧ RdS w' w'.heap.size 1 A n c (bytesV bs) ∧ Below w.heap.size w w'

theorem rtake_few (A : Option Addr) (n c : Nat) (bs : List Int) (w : World) (h : RdS w w.heap.size 1 A n c (bytesV bs)) (h4 : n < 4) :
    Calls Try.prog 21 #[.slice A n c] w (GivesR w (0, 0) bs false) := by
  have h' : (n : Int) < 4 := by omega
  have H := Lib.hid h
  clear h
  go_enter Try.func21, Try.ntmps21
  go_wp2
  exact bodyPost_ret (v := .tuple #[.agg #[.int .i64 0, .int .i64 0], .slice A n c, .bool false]) (by simp [results, Try.results21, go_sem]) rfl ⟨A, n, c, rfl, H.out.up (below1 _ _) (by simp), below1 _ _⟩

set_option maxRecDepth 100000 in
set_option maxHeartbeats 1000000 in
theorem rtake_no (b off n c : Nat) (bs : List Int) (x0 x1 x2 x3 : Int) (w : World) (h : 4 ≤ n) (hm : n ≤ 1048576) (h0 : RdS w w.heap.size 1 (some ⟨b, off, none⟩) n c (bytesV bs))
    (k0 : 0 ≤ x0 ∧ x0 ≤ 255) (k1 : 0 ≤ x1 ∧ x1 ≤ 255) (k2 : 0 ≤ x2 ∧ x2 ≤ 255) (k3 : 0 ≤ x3 ∧ x3 ≤ 255)
    (e0 : w.cell? ⟨b, off, none⟩ = some (.int .u8 x0)) (e1 : w.cell? ⟨b, off + 1, none⟩ = some (.int .u8 x1)) (e2 : w.cell? ⟨b, off + 2, none⟩ = some (.int .u8 x2)) (e3 : w.cell? ⟨b, off + 3, none⟩ = some (.int .u8 x3))
    (hmay : mayI x0 (65536 * x1 + 256 * x2 + x3) = false)
    (A' : Option Addr) (hA : ∀ W : World, (Instr.slice 34 (.slice (some ⟨b, off, none⟩) n c) (some (.int .i64 4)) none none).run Try.prog W = .ok (.slice A' (n - 4) (c - 4)) W) (hr : RdS w w.heap.size 1 A' (n - 4) (c - 4) (bytesV (bs.drop 4))) :
    Calls Try.prog 21 #[.slice (some ⟨b, off, none⟩) n c] w
      (GivesR w (0, 0) bs false) := by
  have h' : ¬ (n : Int) < 4 := by omega
  have hn0 : 0 < n := by omega
  have h1 : (0 : Int) < n := by omega
  have h2 : (1 : Int) < n := by omega
  have h3 : (2 : Int) < n := by omega
  have h4 : (3 : Int) < n := by omega
  have w0 := IntWalk.i64_in x0 (by omega)
  have w1 := IntWalk.i64_in x1 (by omega)
  have w2 := IntWalk.i64_in x2 (by omega)
  have w3 := IntWalk.i64_in x3 (by omega)
  have w4 := IntWalk.i64_in (65536 * x1) (by omega)
  have w5 := IntWalk.i64_in (256 * x2) (by omega)
  have w6 := IntWalk.i64_in (65536 * x1 + 256 * x2) (by omega)
  have w7 := IntWalk.i64_in (65536 * x1 + 256 * x2 + x3) (by omega)
  have H0 := Lib.hid h0
  have HR := Lib.hid hr
  have HM := rmay_any x0 (65536 * x1 + 256 * x2 + x3)
  rw [hmay] at HM
  have HMM := Lib.hid (fun W => HM W)
  clear hmay HM
  have hlb : b < w.heap.size := World.block_lt_of_cell? w _ e0
  clear h0 hr
  go_enter Try.func21, Try.ntmps21
  go_wp2
  go_region_held3 (fun x => x.cell? ⟨b, off, none⟩ = some (.int .u8 x0) ∧ x.cell? ⟨b, off + 1, none⟩ = some (.int .u8 x1) ∧ x.cell? ⟨b, off + 2, none⟩ = some (.int .u8 x2) ∧ x.cell? ⟨b, off + 3, none⟩ = some (.int .u8 x3))
    (go_keep) (fail)
  go_wp2_with (go_at_call 12; refine (HMM.out _).mono ?_; rintro e y2 ⟨rfl, hb2⟩; have X : Ext (w.alloc (.cells #[.int .i64 0, .int .i64 0] 23)) y2 := Ext.trans (Ext.trans (show Ext _ (w.alloc (.cells #[.int .i64 0, .int .i64 0] 23)).drew from (Below.refl _ _).drew) (below1 _ _)) hb2; have d0 : y2.cell? ⟨w.heap.size, 0, none⟩ = some (.int .i64 0) := X.cell (by go_simp); have d1 : y2.cell? ⟨w.heap.size, 1, none⟩ = some (.int .i64 0) := X.cell (by go_simp); have g0 : y2.frozen? ⟨w.heap.size, 0, none⟩ = false := (Below.frozen X (p := ⟨w.heap.size, 0, none⟩) (by simp)).trans (by go_simp); have g1 : y2.frozen? ⟨w.heap.size, 1, none⟩ = false := (Below.frozen X (p := ⟨w.heap.size, 1, none⟩) (by simp)).trans (by go_simp))
  have hBy : Below w.heap.size w y2 := (below1 w _).trans (Below.mono X (by simp))
  have hBz := (hBy.setCell (p := ⟨w.heap.size, 0, none⟩) (by simp) (.int .i64 0)).setCell (p := ⟨w.heap.size, 1, none⟩) (by simp) (.int .i64 0)
  exact bodyPost_ret (v := .tuple #[.agg #[.int .i64 0, .int .i64 0], .slice (some ⟨b, off, none⟩) n c, .bool false]) (by simp [results, Try.results21, go_sem, d0, d1]) rfl ⟨_, n, c, rfl, H0.out.up hBz hBz.size, hBz⟩

set_option maxRecDepth 100000 in
set_option maxHeartbeats 1000000 in
theorem rtake_yes (b off n c : Nat) (bs : List Int) (x0 x1 x2 x3 : Int) (w : World) (h : 4 ≤ n) (hm : n ≤ 1048576) (h0 : RdS w w.heap.size 1 (some ⟨b, off, none⟩) n c (bytesV bs))
    (k0 : 0 ≤ x0 ∧ x0 ≤ 255) (k1 : 0 ≤ x1 ∧ x1 ≤ 255) (k2 : 0 ≤ x2 ∧ x2 ≤ 255) (k3 : 0 ≤ x3 ∧ x3 ≤ 255)
    (e0 : w.cell? ⟨b, off, none⟩ = some (.int .u8 x0)) (e1 : w.cell? ⟨b, off + 1, none⟩ = some (.int .u8 x1)) (e2 : w.cell? ⟨b, off + 2, none⟩ = some (.int .u8 x2)) (e3 : w.cell? ⟨b, off + 3, none⟩ = some (.int .u8 x3))
    (hmay : mayI x0 (65536 * x1 + 256 * x2 + x3) = true)
    (A' : Option Addr) (hA : ∀ W : World, (Instr.slice 34 (.slice (some ⟨b, off, none⟩) n c) (some (.int .i64 4)) none none).run Try.prog W = .ok (.slice A' (n - 4) (c - 4)) W) (hr : RdS w w.heap.size 1 A' (n - 4) (c - 4) (bytesV (bs.drop 4))) :
    Calls Try.prog 21 #[.slice (some ⟨b, off, none⟩) n c] w
      (GivesR w (x0, 65536 * x1 + 256 * x2 + x3) (bs.drop 4) true) := by
  have h' : ¬ (n : Int) < 4 := by omega
  have hn0 : 0 < n := by omega
  have h1 : (0 : Int) < n := by omega
  have h2 : (1 : Int) < n := by omega
  have h3 : (2 : Int) < n := by omega
  have h4 : (3 : Int) < n := by omega
  have w0 := IntWalk.i64_in x0 (by omega)
  have w1 := IntWalk.i64_in x1 (by omega)
  have w2 := IntWalk.i64_in x2 (by omega)
  have w3 := IntWalk.i64_in x3 (by omega)
  have w4 := IntWalk.i64_in (65536 * x1) (by omega)
  have w5 := IntWalk.i64_in (256 * x2) (by omega)
  have w6 := IntWalk.i64_in (65536 * x1 + 256 * x2) (by omega)
  have w7 := IntWalk.i64_in (65536 * x1 + 256 * x2 + x3) (by omega)
  have H0 := Lib.hid h0
  have HR := Lib.hid hr
  have HM := rmay_any x0 (65536 * x1 + 256 * x2 + x3)
  rw [hmay] at HM
  have HMM := Lib.hid (fun W => HM W)
  clear hmay HM
  have hlb : b < w.heap.size := World.block_lt_of_cell? w _ e0
  clear h0 hr
  go_enter Try.func21, Try.ntmps21
  go_wp2
  go_region_held3 (fun x => x.cell? ⟨b, off, none⟩ = some (.int .u8 x0) ∧ x.cell? ⟨b, off + 1, none⟩ = some (.int .u8 x1) ∧ x.cell? ⟨b, off + 2, none⟩ = some (.int .u8 x2) ∧ x.cell? ⟨b, off + 3, none⟩ = some (.int .u8 x3))
    (go_keep) (fail)
  go_wp2_with (go_at_call 12; refine (HMM.out _).mono ?_; rintro e y2 ⟨rfl, hb2⟩; have X : Ext (w.alloc (.cells #[.int .i64 0, .int .i64 0] 23)) y2 := Ext.trans (Ext.trans (show Ext _ (w.alloc (.cells #[.int .i64 0, .int .i64 0] 23)).drew from (Below.refl _ _).drew) (below1 _ _)) hb2; have d0 : y2.cell? ⟨w.heap.size, 0, none⟩ = some (.int .i64 0) := X.cell (by go_simp); have d1 : y2.cell? ⟨w.heap.size, 1, none⟩ = some (.int .i64 0) := X.cell (by go_simp); have g0 : y2.frozen? ⟨w.heap.size, 0, none⟩ = false := (Below.frozen X (p := ⟨w.heap.size, 0, none⟩) (by simp)).trans (by go_simp); have g1 : y2.frozen? ⟨w.heap.size, 1, none⟩ = false := (Below.frozen X (p := ⟨w.heap.size, 1, none⟩) (by simp)).trans (by go_simp))
  have hBy : Below w.heap.size w y2 := (below1 w _).trans (Below.mono X (by simp))
  have p0 : y2.cell? ⟨w.heap.size + 1, 0, none⟩ = some (.int .i64 x0) := Ext.cell hb2 (by go_simp)
  have p1 : y2.cell? ⟨w.heap.size + 1, 1, none⟩ = some (.int .i64 (65536 * x1 + 256 * x2 + x3)) := Ext.cell hb2 (by go_simp)
  go_region_held3 (fun x => x.cell? ⟨w.heap.size + 1, 0, none⟩ = some (.int .i64 x0) ∧ x.cell? ⟨w.heap.size + 1, 1, none⟩ = some (.int .i64 (65536 * x1 + 256 * x2 + x3)))
    (go_keep) (fail)
  go_wp2
  have hBz := ((hBy.drew).setCell (p := ⟨w.heap.size, 0, none⟩) (by simp) (.int .i64 x0)).setCell (p := ⟨w.heap.size, 1, none⟩) (by simp) (.int .i64 (65536 * x1 + 256 * x2 + x3))
  refine bodyPost_ret (v := .tuple #[.agg #[.int .i64 x0, .int .i64 (65536 * x1 + 256 * x2 + x3)], .slice A' (n - 4) (c - 4), .bool true]) (by simp [results, Try.results21, go_sem, d0, d1]) rfl ⟨_, _, _, rfl, HR.out.up ?_ ?_, ?_⟩
  · exact hBz
  · exact hBz.size
  · exact hBz

theorem rtake_any (A : Option Addr) (n c : Nat) (bs : List Int) (w : World) (h : RdS w w.heap.size 1 A n c (bytesV bs)) (hn : n ≤ 1048576) (hf : fits bs) :
    Calls Try.prog 21 #[.slice A n c] w (GivesR w (takeI bs).1 (takeI bs).2.1 (takeI bs).2.2) := by
  have hl : bs.length = n := by simpa [bytesV] using h.len
  unfold takeI
  by_cases h4 : n < 4
  · have hm : ¬ mayI (firstI bs).1 (firstI bs).2 = true := fun e => by
      have := may_four bs e
      omega
    rw [if_neg hm]
    exact rtake_few A n c bs w h h4
  · obtain ⟨_, b, off, rfl, _, hc⟩ := h.bytes_at (by omega)
    have g : ∀ k (hk : k < bs.length), bs.getD k 0 = bs[k] := fun k hk => by simp [List.getD, hk]
    have m : ∀ k (hk : k < bs.length), 0 ≤ bs[k] ∧ bs[k] ≤ 255 := fun k hk => hf _ (List.getElem_mem hk)
    have hfi : firstI bs = (bs[0]'(by omega), (65536 : Int) * bs[1]'(by omega) + (256 : Int) * bs[2]'(by omega) + bs[3]'(by omega)) := by
      unfold firstI
      rw [if_neg (by omega), g 0 (by omega), g 1 (by omega), g 2 (by omega), g 3 (by omega)]
    rw [hfi]
    have hd : bytesV (bs.drop 4) = (bytesV bs).drop 4 := by simp [bytesV]
    have hr : RdS w w.heap.size 1 (if c = 4 then some ⟨b, off, none⟩ else some ⟨b, off + 4, none⟩) (n - 4) (c - 4) (bytesV (bs.drop 4)) := by
      rw [hd]
      by_cases hc : c = 4
      · rw [if_pos hc]
        exact h.cut_all 4 (by omega) hc (by simp)
      · rw [if_neg hc]
        exact h.cut_at 4 (by omega)
    cases hm : mayI (bs[0]'(by omega)) ((65536 : Int) * bs[1]'(by omega) + (256 : Int) * bs[2]'(by omega) + bs[3]'(by omega))
    · simp only [Bool.false_eq_true, if_false]
      exact rtake_no b off n c bs _ _ _ _ w (by omega) hn h (m 0 (by omega)) (m 1 (by omega)) (m 2 (by omega)) (m 3 (by omega)) (hc 0 (by omega)) (hc 1 (by omega)) (hc 2 (by omega)) (hc 3 (by omega)) hm _ (run_cut b off n c (by omega) h.le hn) hr
    · simp only [if_true]
      exact rtake_yes b off n c bs _ _ _ _ w (by omega) hn h (m 0 (by omega)) (m 1 (by omega)) (m 2 (by omega)) (m 3 (by omega)) (hc 0 (by omega)) (hc 1 (by omega)) (hc 2 (by omega)) (hc 3 (by omega)) hm _ (run_cut b off n c (by omega) h.le hn) hr
end Go.Proofs.Ytedihfggijcciaa
