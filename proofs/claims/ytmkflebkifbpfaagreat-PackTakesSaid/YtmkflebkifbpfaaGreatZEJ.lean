/- Several texts in one. -/
import Derived.Test.YtmkflebkifbpfaaGreatZEA
import Derived.Test.YtmkflebkifbpfaaGreatZEI
import Derived.Test.YtmkflebkifbpfaaGreatZEB
import Derived.Test.YtmkflebkifbpfaaGreatZED
import Derived.Test.YtmkflebkifbpfaaGreatZEF
import Derived.Test.YtmkflebkifbpfaaGreatZEH
import Derived.Test.YtmkflebkifbpfaaGreatZEG
import Derived.Test.YtmkflebkifbpfaaGreatZEE
/- The reader: next. -/
set_option linter.unusedSimpArgs false
set_option linter.unusedVariables false
set_option linter.unusedSectionVars false
namespace Go.Proofs.YtmkflebkifbpfaaGreat
open Go.RowKit
theorem kept_grow {S : Nat → Prop} {w w' : World} {r : Option Nat} (hg : w.grownBy w' r) (hS : ∀ i, some i = r → S i) : Kept S w w' := ⟨hg.os, hg.tape, hg.output, hg.size, fun i hi hn => hg.block i hi (fun e => hn (hS i e))⟩
theorem ext_grown {w w1 w2 : World} {q : Nat} (h : Ext w w1) (hg : w1.grownBy w2 (some q)) (hq : w.heap.size ≤ q) : Ext w w2 := Below.grown h hg h.size (fun k e => by obtain rfl := Option.some.inj e; exact hq)
theorem grown_ext {w w1 w2 : World} {r : Option Nat} (h : w.grownBy w1 r) (hb : Ext w1 w2) : w.grownBy w2 r := ⟨hb.os.trans h.os, hb.tape.trans h.tape, hb.output.trans h.output, Nat.le_trans h.size hb.size, fun k hk hne => (hb.block k (Nat.lt_of_lt_of_le hk h.size)).trans (h.block k hk hne)⟩
theorem ext_grow {w w1 w2 : World} {r : Option Nat} (hb : Ext w w1) (h : w1.grownBy w2 r) : w.grownBy w2 r := ⟨h.os.trans hb.os, h.tape.trans hb.tape, h.output.trans hb.output, Nat.le_trans hb.size h.size, fun k hk hne => (h.block k (Nat.lt_of_lt_of_le hk hb.size) hne).trans (hb.block k hk)⟩
theorem grown_two {w w1 w2 : World} {r : Option Nat} (h : w.grownBy w1 r) (h2 : w1.grownBy w2 r) : w.grownBy w2 r := ⟨h2.os.trans h.os, h2.tape.trans h.tape, h2.output.trans h.output, Nat.le_trans h.size h2.size, fun k hk hne => (h2.block k (Nat.lt_of_lt_of_le hk h.size) hne).trans (h.block k hk hne)⟩
theorem grown_set {w w1 : World} (hb : Ext w w1) (g i : Nat) (u : Value) : w.grownBy (w1.setCell ⟨g, i, none⟩ u) (some g) := ext_grow hb ⟨rfl, rfl, rfl, by simp, fun k _ hk => heap_setCell_other w1 ⟨g, i, none⟩ k u (fun e => hk (by simp [e]))⟩
theorem rds_far8 {w : World} {B n c g : Nat} {A : Option Addr} {L : List Nat} {v : Value} (h : RdS w B 1 A n c (rowsV f8 L)) (hw : w.cell? ⟨g, 0, none⟩ = some v) (hv : ∀ b : Nat, v ≠ .int .u8 (b : Int)) (u : Value) : RdS (w.setCell ⟨g, 0, none⟩ u) B 1 A n c (rowsV f8 L) :=
  rds_poke h hw (fun q => by
    rw [rowsV_map8] at q
    obtain ⟨b, -, e⟩ := List.mem_map.1 q
    exact hv b e.symm) u
theorem nx_split (k : Nat) (L : List Nat) : nx k L = L.take k ++ List.replicate (k - L.length) 0 := by
  unfold nx
  rw [List.take_append, List.take_replicate]
  congr 2
  omega
/-- Bytes copied into a row of noughts. -/
theorem copy_sl (ty : TypeId) {w : World} {g k : Nat} {A : Option Addr} {n c : Nat} {L : List Nat} (hw : Whole w g 5 (rowsV f8 (List.replicate k 0))) (h : RdS w w.heap.size 1 A n c (rowsV f8 L)) :
    ∃ w', (Builtin.copy_ #[27, 27] ty #[.slice (some ⟨g, 0, none⟩) k k, .slice A n c]).run Tryz.prog w = .ok (.int .i64 ((min n k : Nat) : Int)) w' ∧ Whole w' g 5 (rowsV f8 (nx k L)) ∧ w.grownBy w' (some g) := by
  have hl := h.rlen f8_len (by decide)
  by_cases h0 : min n k = 0
  · have hr := run_copy_none (P := Tryz.prog) w 27 27 ty 5 (some ⟨g, 0, none⟩) A k k n c Tryz.underlying27 (by kernel_rfl) h0
    have e : nx k L = List.replicate k 0 := by
      rw [nx_split]
      by_cases hk : k = 0
      · subst hk; simp
      · obtain rfl : L = [] := List.eq_nil_of_length_eq_zero (by omega)
        simp
    exact ⟨w, by rw [hr, h0]; rfl, by rw [e]; exact hw, ⟨rfl, rfl, rfl, Nat.le_refl _, fun _ _ _ => rfl⟩⟩
  · obtain ⟨a, rfl, hs⟩ := h.src (by rw [rows8_len]; omega)
    have hcl : (rowsV f8 (L.take k)).length = min n k := by rw [rows8_len, List.length_take, hl]; omega
    have hr := run_copy_row (P := Tryz.prog) w 27 27 ty 5 g 0 k k a n c (rowsV f8 (List.replicate k 0)).toArray 5 (rowsV f8 (L.take k)) Tryz.underlying27 (by kernel_rfl) hw hcl
      (fun j v hj => hs j v (by
        rw [rowsV_map8, List.map_take, List.getElem?_take] at hj
        rw [rowsV_map8]
        split at hj
        · exact hj
        · cases hj)) (by simp [rows8_len]; omega) (f8_all _)
    have e : ((rowsV f8 (List.replicate k 0)).toArray.toList.take 0 ++ rowsV f8 (L.take k) ++ (rowsV f8 (List.replicate k 0)).toArray.toList.drop (0 + (rowsV f8 (L.take k)).length)).toArray = (rowsV f8 (nx k L)).toArray := by
      have e2 : (rowsV f8 (List.replicate k 0)).drop (min n k) = rowsV f8 (List.replicate (k - L.length) 0) := by
        rw [rowsV_map8, rowsV_map8, List.map_replicate, List.map_replicate, List.drop_replicate, hl, show k - min n k = k - n by omega]
      rw [List.take_zero, List.nil_append, Nat.zero_add, hcl, nx_split, rows8_app, show (rowsV f8 (List.replicate k 0)).toArray.toList = rowsV f8 (List.replicate k 0) from rfl, e2]
    rw [e, hcl] at hr
    exact ⟨_, hr, Whole.row hw _, ⟨rfl, rfl, rfl, by simp [World.setRow], fun i _ hk => setRow_other w g i _ (fun e => hk (by rw [e]))⟩⟩
theorem drop_min (n k : Nat) (L : List Nat) (h : L.length = n) : L.drop (min n k) = L.drop k := by
  by_cases hk : k ≤ n
  · rw [Nat.min_eq_right hk]
  · rw [Nat.min_eq_left (by omega), List.drop_eq_nil_of_le (by omega), List.drop_eq_nil_of_le (by omega)]
/-- What a call at the reader leaves: what is left; all else is as it was. -/
def LeftAt (lo : Nat) (w w' : World) (g : Nat) (R : List Nat) : Prop := ∃ A n c, Whole w' g 62 [.slice A n c] ∧ RdS w' w'.heap.size 1 A n c (rowsV f8 R) ∧ w.grownBy w' (some g) ∧ ∀ a, A = some a → 0 < n → a.block < lo
set_option maxRecDepth 100000 in
set_option maxHeartbeats 4000000 in
theorem next_any (lo g k : Nat) (A : Option Addr) (n c : Nat) (L : List Nat) (w : World) (hw : Whole w g 62 [.slice A n c]) (h : RdS w w.heap.size 1 A n c (rowsV f8 L)) (hk : k ≤ 1000) (hn : n ≤ 1000000) (hlo : ∀ a, A = some a → 0 < n → a.block < lo) :
    Calls Tryz.prog 56 #[.pointer (some ⟨g, 0, none⟩), .int .i64 (k : Int)] w fun e w' => ∃ q, e = .returned (.slice (some ⟨q, 0, none⟩) k k) ∧ w.heap.size ≤ q ∧ Whole w' q 5 (rowsV f8 (nx k L)) ∧ LeftAt lo w w' g (L.drop k) := by
  have HW := Lib.hid hw
  have HR := Lib.hid h
  have Hl : RowKit.Hid (L.length = n) := Lib.hid (h.rlen f8_len (by decide))
  have hmk := make_u8 k (by omega)
  have Hlo := Lib.hid hlo
  have hnc := h.le
  have Hnc := Lib.hid hnc
  have HG : RowKit.Hid (g < w.heap.size) := Lib.hid hw.lt
  obtain ⟨Z, gZ⟩ : ∃ Z, rowsV f8 (List.replicate k 0) = Z := ⟨_, rfl⟩
  rw [gZ] at hmk
  have HZ1 : RowKit.Hid (Whole (w.alloc (.cells Z.toArray 5)) w.heap.size 5 (rowsV f8 (List.replicate k 0))) := Lib.hid (by rw [gZ]; exact Whole.new_ _ _ _)
  clear hw h gZ hlo hnc
  go_enter Tryz.func56, Tryz.ntmps56
  go_upto_region 2 with fail
  have HW1 := Lib.hid (HW.out.al (.cells Z.toArray 5))
  have HR1 := Lib.hid (HR.out.al (.cells Z.toArray 5))
  have HE1 : RowKit.Hid (Ext w (w.alloc (.cells Z.toArray 5))) := Lib.hid (below1 w _)
  obtain ⟨w1, gw1⟩ : ∃ z, w.alloc (.cells Z.toArray 5) = z := ⟨_, rfl⟩
  obtain ⟨q, gq⟩ : ∃ z, w.heap.size = z := ⟨_, rfl⟩
  rw [gw1] at HZ1 HW1 HR1 HE1 ⊢
  rw [gq] at HZ1 ⊢
  have Gq := Lib.hid gq
  have Hgq : RowKit.Hid (g ≠ q) := Lib.hid (by have := HG.out; omega)
  clear hmk gw1 gq
  have HDr : RowKit.Hid (Ext w1 w1.drew) := Lib.hid (below_drewN w1.heap.size w1 1)
  have ld0 : ∀ w', Kept (fun i => i = q) w1.drew w' → w'.cell? ⟨g, 0, none⟩ = some (.slice A n c) := fun w' h => h.cell (HW1.out.dr.cell (i := 0) rfl) Hgq.out
  obtain ⟨A1, gA1⟩ : ∃ z, (if c = min n k then A else A.map (·.add (min n k * 1))) = z := ⟨_, rfl⟩
  have HA1 := Lib.hid gA1
  clear gA1
  refine wp_region_tail (fun i => i = q) [14] (by kernel_rfl) ?_
  apply wpT_next 0 (some 8) (by kernel_rfl)
  · rfl
  · rfl
  · kernel_rfl
  · kernel_rfl
  · kernel_rfl
  · exact fun _ _ _ _ h => h
  apply Exists.intro
  apply And.intro
  · apply yr_run; rfl; intro w' hw'; go_simp; (try with_reducible rfl)
  simp only [Act.put, stA_, st0_, st1_]
  apply wpT_next 1 (some 9) (by kernel_rfl)
  · rfl
  · rfl
  · kernel_rfl
  · kernel_rfl
  · kernel_rfl
  · exact fun _ _ _ _ h => h
  apply Exists.intro
  apply And.intro
  · apply yr_run; rfl; intro w' hw'; go_simp; (try with_reducible rfl)
  simp only [Act.put, stA_, st0_, st1_]
  apply wpT_next 2 (some 10) (by kernel_rfl)
  · rfl
  · rfl
  · kernel_rfl
  · kernel_rfl
  · kernel_rfl
  · exact fun _ _ _ _ h => h
  apply Exists.intro
  apply And.intro
  · apply yr_run; rfl; intro w' hw'; go_simp; (try with_reducible rfl)
  simp only [Act.put, stA_, st0_, st1_]
  apply wpT_next 3 (some 11) (by kernel_rfl)
  · rfl
  · rfl
  · kernel_rfl
  · kernel_rfl
  · kernel_rfl
  · exact fun _ _ _ _ h => h
  apply Exists.intro
  apply And.intro
  · apply yr_run; rfl; intro w' hw'; go_simp; (try with_reducible rfl)
  simp only [Act.put, stA_, st0_, st1_]
  apply wpT_next 4 (some 12) (by kernel_rfl)
  · rfl
  · rfl
  · kernel_rfl
  · kernel_rfl
  · kernel_rfl
  · exact fun _ _ _ _ h => h
  apply Exists.intro
  apply And.intro
  · apply yr_run; rfl; intro w' hw'; go_simp; (try with_reducible rfl)
  simp only [Act.put, stA_, st0_, st1_]
  apply wpT_next 5 (some 13) (by kernel_rfl)
  · rfl
  · rfl
  · kernel_rfl
  · kernel_rfl
  · kernel_rfl
  · exact fun _ _ _ _ h => h
  apply Exists.intro
  apply And.intro
  · apply yr_run; rfl; intro w' hw'; go_simp; (try with_reducible rfl)
  simp only [Act.put, stA_, st0_, st1_]
  apply wpT_next 6 (some 14) (by kernel_rfl)
  · rfl
  · rfl
  · kernel_rfl
  · kernel_rfl
  · kernel_rfl
  · exact fun _ _ _ _ h => h
  apply Exists.intro
  apply And.intro
  · apply yr_run; rfl; intro w' hw'; go_simp; (try with_reducible rfl)
  simp only [Act.put, stA_, st0_, st1_]
  apply wpT_next 7 (some 15) (by kernel_rfl)
  · rfl
  · rfl
  · kernel_rfl
  · kernel_rfl
  · kernel_rfl
  · exact fun _ _ _ _ h => h
  apply Exists.intro
  apply And.intro
  · apply yr_run; rfl; intro w' hw'; go_simp; (try with_reducible rfl)
  simp only [Act.put, stA_, st0_, st1_]
  apply wpT_next 8 (some 16) (by kernel_rfl)
  · rfl
  · rfl
  · kernel_rfl
  · kernel_rfl
  · kernel_rfl
  · exact fun _ _ _ _ h => h
  apply Exists.intro
  apply And.intro
  · apply yr_run; rfl; intro w' hw'; go_simp; (try with_reducible rfl)
  simp only [Act.put, stA_, st0_, st1_]
  apply wpT_next 9 (some 17) (by kernel_rfl)
  · rfl
  · rfl
  · kernel_rfl
  · kernel_rfl
  · kernel_rfl
  · exact fun _ _ _ _ h => h
  apply Exists.intro
  apply And.intro
  · apply yr_run; rfl; intro w' hw'; go_simp; (try with_reducible rfl)
  simp only [Act.put, stA_, st0_, st1_]
  apply wpT_run 10 (some 18)
  · rfl
  · rfl
  · kernel_rfl
  · rfl
  intro w' hw'
  have hE := Ext.trans HDr.out hw'
  obtain ⟨w2, hrun, hq2, hg2⟩ := copy_sl 3 (HZ1.out.bl hE) (HR1.out.bl hE)
  refine ⟨_, w2, exec_copy (.tmp 13) (.tmp 17) 27 27 rfl rfl rfl hrun, kept_grow hg2 (fun i e => Option.some.inj e), ?_⟩
  have HQ2 := Lib.hid hq2
  have HW2 := Lib.hid ((HW1.out.bl hE).grown hg2 (fun e => Hgq.out (Option.some.inj e)))
  have HR2 : RowKit.Hid (RdS w2 w2.heap.size 1 A n c (rowsV f8 L)) := Lib.hid (HR.out.bl (ext_grown (Ext.trans HE1.out hE) hg2 (Nat.le_of_eq Gq.out)))
  have HK2 : RowKit.Hid (Ext w w2) := Lib.hid (ext_grown (Ext.trans HE1.out hE) hg2 (Nat.le_of_eq Gq.out))
  clear hrun hq2 hg2 hE hw' HZ1 HW1 HR1
  simp only [Act.put, stA_, st0_, st1_]
  apply wpT_next 11 (some 19) (by kernel_rfl)
  · rfl
  · rfl
  · kernel_rfl
  · kernel_rfl
  · kernel_rfl
  · exact fun _ _ _ _ h => h
  apply Exists.intro
  apply And.intro
  · apply yr_run; rfl; intro w' hw'; exact exec_slice_low_as 27 5 (.tmp 12) (.tmp 18) rfl Tryz.underlying27 (s := 1) (by kernel_rfl) rfl rfl (Nat.min_le_left _ _) HA1.out rfl rfl
  simp only [Act.put, stA_, st0_, st1_]
  apply wpT_run 12 (some 20)
  · rfl
  · rfl
  · kernel_rfl
  · rfl
  intro w' hw'
  apply Exists.intro
  apply Exists.intro
  apply And.intro
  · go_simp; first | done | exact ⟨rfl, rfl⟩ | exact rfl
  apply And.intro
  · exact Kept.refl _ _
  have hpd12 := hw'
  clear hw'
  simp only [Act.put, stA_, st0_, st1_]
  apply wpT_next 13 (some 21) (by kernel_rfl)
  · rfl
  · rfl
  · kernel_rfl
  · kernel_rfl
  · kernel_rfl
  · exact fun _ _ _ _ h => h
  apply Exists.intro
  apply And.intro
  · apply yr_run; rfl; intro w' hw'; go_simp; (try with_reducible rfl)
  simp only [Act.put, stA_, st0_, st1_]
  apply wpT_last 14
  · rfl
  · rfl
  · kernel_rfl
  · rfl
  · decide
  intro w' hw'
  replace hw' := Ext.trans hpd12 hw'
  clear hpd12
  have hyw := HW2.out.bl hw'
  have q0 := hyw.cell (i := 0) rfl
  have f0 := hyw.free 0
  refine ⟨w'.setCell ⟨g, 0, none⟩ (.slice A1 (n - min n k) (c - min n k)), by (go_simp; first | done | exact rfl | exact ⟨rfl, rfl⟩), ?_⟩
  have HQ3 := Lib.hid ((HQ2.out.bl hw').set_far' (i := 0) ((HQ2.out.bl hw').ne_ hyw (by decide)) (.slice A1 (n - min n k) (c - min n k)))
  have HW3 := Lib.hid (hyw.set_ 0 (.slice A1 (n - min n k) (c - min n k)))
  have HR3 : RowKit.Hid (RdS (w'.setCell ⟨g, 0, none⟩ (.slice A1 (n - min n k) (c - min n k))) w'.heap.size 1 A1 (n - min n k) (c - min n k) (rowsV f8 (L.drop k))) := Lib.hid (by
    have h9 := (HR2.out.bl hw').low_ (k := min n k) (Nat.min_le_left _ _)
    rw [HA1.out, show (rowsV f8 L).drop (min n k * 1) = rowsV f8 (L.drop k) from by rw [Nat.mul_one, rowsV_map8, ← List.map_drop, drop_min n k L Hl.out, ← rowsV_map8]] at h9
    exact rds_far8 h9 q0 (fun b e => by cases e) _)
  have HK3 : RowKit.Hid (w.grownBy (w'.setCell ⟨g, 0, none⟩ (.slice A1 (n - min n k) (c - min n k))) (some g)) := Lib.hid (grown_set (Ext.trans HK2.out hw') g 0 _)
  obtain ⟨w3, gw3⟩ : ∃ z, w'.setCell ⟨g, 0, none⟩ (.slice A1 (n - min n k) (c - min n k)) = z := ⟨_, rfl⟩
  have hsz : w3.heap.size = w'.heap.size := by rw [← gw3]; simp
  rw [gw3] at HQ3 HW3 HR3 HK3 ⊢
  rw [← hsz] at HR3
  clear hyw q0 f0 gw3 hsz hw' HQ2 HW2 HR2 HK2
  try simp only [Act.put, stA_, st0_, st1_]
  refine wpT_done (by kernel_rfl) ?_ _
  intro w9 hw9
  have HQ9 := Lib.hid (HQ3.out.bl hw9)
  have HW9 := Lib.hid (HW3.out.bl hw9)
  have HR9 := Lib.hid (HR3.out.bl hw9)
  have HK9 := Lib.hid (grown_ext HK3.out hw9)
  clear hw9 HQ3 HW3 HR3 HK3
  clear ld0
  go_wp2
  go_ret
  exact ⟨q, rfl, Nat.le_of_eq Gq.out, HQ9.out, A1, n - min n k, c - min n k, HW9.out, HR9.out, HK9.out, fun a ha h0 => by
    have h1 := HA1.out
    rw [if_neg (by have := Hnc.out; omega)] at h1
    rw [← h1] at ha
    cases hA : A with
    | none => rw [hA] at ha; cases ha
    | some b =>
      rw [hA] at ha
      obtain rfl := Option.some.inj ha
      rw [add_block]
      exact Hlo.out b hA (by omega)⟩
end Go.Proofs.YtmkflebkifbpfaaGreat
/- The reader: count. ident.first and ident.Take of four bytes. -/
namespace Go.Proofs.YtmkflebkifbpfaaGreat
open Go.RowKit
theorem nx_one (L : List Nat) : nx 1 L = [c1 L] := by cases L <;> rfl
theorem byte_lt {L : List Nat} (h : ∀ b ∈ L, b < 256) : c1 L < 256 := by
  cases L with
  | nil => show 0 < 256; omega
  | cons a l => exact h a (by simp)
/-- Where the reader stands; its bytes lie below lo. -/
def RdAt (lo : Nat) (w : World) (g : Nat) (R : List Nat) : Prop := ∃ A n c, Whole w g 62 [.slice A n c] ∧ RdS w w.heap.size 1 A n c (rowsV f8 R) ∧ n ≤ 1000000 ∧ ∀ a, A = some a → 0 < n → a.block < lo
theorem LeftAt.at_ {lo : Nat} {w w1 : World} {g : Nat} {R : List Nat} (h : LeftAt lo w w1 g R) (hn : R.length ≤ 1000000) : RdAt lo w1 g R ∧ w.grownBy w1 (some g) := by
  obtain ⟨A, n, c, h3, h4, h5, h6⟩ := h
  have := h4.rlen f8_len (by decide)
  exact ⟨⟨A, n, c, h3, h4, by omega, h6⟩, h5⟩
theorem next_at (lo g k : Nat) (L : List Nat) (w : World) (h : RdAt lo w g L) (hk : k ≤ 1000) :
    Calls Tryz.prog 56 #[.pointer (some ⟨g, 0, none⟩), .int .i64 (k : Int)] w fun e w' => ∃ q, e = .returned (.slice (some ⟨q, 0, none⟩) k k) ∧ w.heap.size ≤ q ∧ Whole w' q 5 (rowsV f8 (nx k L)) ∧ RdAt lo w' g (L.drop k) ∧ w.grownBy w' (some g) := by
  obtain ⟨A, n, c, h1, h2, h3, h4⟩ := h
  have hl := h2.rlen f8_len (by decide)
  refine (next_any lo g k A n c L w h1 h2 hk h3 h4).mono ?_
  rintro e w' ⟨q, rfl, hq, hw, hla⟩
  have h9 := hla.at_ (by rw [List.length_drop]; omega)
  exact ⟨q, rfl, hq, hw, h9.1, h9.2⟩
set_option maxRecDepth 100000 in
set_option maxHeartbeats 1000000 in
theorem count_at (lo g : Nat) (L : List Nat) (w : World) (h : RdAt lo w g L) (hb : ∀ b ∈ L, b < 256) :
    Calls Tryz.prog 31 #[.pointer (some ⟨g, 0, none⟩)] w fun e w' => e = .returned (.int .i64 (c1 L : Int)) ∧ RdAt lo w' g (L.drop 1) ∧ w.grownBy w' (some g) := by
  have HN := Lib.hid (next_at lo g 1 L w h (by omega))
  rw [nx_one] at HN
  have hlt := byte_lt hb
  obtain ⟨b, gb⟩ : ∃ z, c1 L = z := ⟨_, rfl⟩
  rw [gb] at HN hlt ⊢
  obtain ⟨R, gR⟩ : ∃ z, L.drop 1 = z := ⟨_, rfl⟩
  rw [gR] at HN ⊢
  have hw : IntKind.i64.wrap (b : Int) = (b : Int) := IntWalk.i64_in _ (by omega)
  clear h hb gb gR
  go_enter Tryz.func31, Tryz.ntmps31
  go_wp2_with (first
    | (go_at_call 56
       refine HN.out.mono ?_
       rintro e w2 ⟨q, rfl, hq, hwq, hra, hgr⟩
       have l0 := hwq.cell (i := 0) (v := .int .u8 (b : Int)) rfl
       have HRa := Lib.hid hra
       have HGr := Lib.hid hgr
       clear hq hwq hra hgr))
  go_ret
  exact ⟨rfl, HRa.out, HGr.out⟩
theorem i64_or_16 (x y : Nat) (hx : x < 256) (hy : y < 65536) : bits .or .i64 ((x : Int) * 65536) (y : Int) = ((x * 65536 + y : Nat) : Int) := by
  have e : ((x : Int) * 65536) = ((2 ^ 16 * x : Nat) : Int) := by omega
  rw [e]
  show IntKind.i64.wrap ((BitVec.ofInt 64 ((2 ^ 16 * x : Nat) : Int) ||| BitVec.ofInt 64 (y : Int)).toNat : Int) = _
  rw [BitVec.toNat_or, ofInt_64 _ (by omega), ofInt_64 y (by omega), ← Nat.two_pow_add_eq_or_of_lt (by omega) x, IntWalk.i64_in _ (by omega)]
  omega
theorem i64_or_8 (x y : Nat) (hx : x < 16777216) (hy : y < 256) : bits .or .i64 ((x * 256 : Nat) : Int) (y : Int) = ((x * 256 + y : Nat) : Int) := by
  have e : ((x * 256 : Nat) : Int) = ((2 ^ 8 * x : Nat) : Int) := by omega
  rw [e]
  show IntKind.i64.wrap ((BitVec.ofInt 64 ((2 ^ 8 * x : Nat) : Int) ||| BitVec.ofInt 64 (y : Int)).toNat : Int) = _
  rw [BitVec.toNat_or, ofInt_64 _ (by omega), ofInt_64 y (by omega), ← Nat.two_pow_add_eq_or_of_lt (by omega) x, IntWalk.i64_in _ (by omega)]
  omega
theorem ret_whole3 {P : Program} {fn : Func} {R : Ending → World → Prop} {a : Act} {w : World} {p u u2 : Tmp} {t : TypeId} (h : fn.results = #[.cell p t, .tmp u, .tmp u2]) (g : Nat) {t' : TypeId} {cs : List Value} {d : TypeDesc} {v v2 : Value}
    (hp : a.tmps.getD p undef = .pointer (some ⟨g, 0, none⟩)) (hv : a.tmps.getD u undef = v) (hv2 : a.tmps.getD u2 undef = v2) (hW : Whole w g t' cs) (hu : P.underlying t = some d) (hd : d.isRow = true) (hi : (P.info? t).map (·.size) = some cs.length)
    (hdf : a.defers = []) (hR : R (.returned (.tuple #[.agg cs.toArray, v, v2])) w) : bodyPost P fn R .ret a w := by
  refine bodyPost_ret (v := .tuple #[.agg cs.toArray, v, v2]) ?_ hdf hR
  have hl := run_loadVar_mid (P := P) w g 0 t cs d (fun j v hv => by
    have := hW.cell hv
    simpa using this) hu hd hi
  have hp2 := hp
  have hv3 := hv
  have hv4 := hv2
  rw [Array.getD_eq_getD_getElem?] at hp2 hv3 hv4
  simp [results, h, hp2, hv3, hv4, asAddr, Sem.run_bind, Result.andThen, hl]
set_option maxRecDepth 100000 in
set_option maxHeartbeats 4000000 in
theorem first_any (A : Option Addr) (n c : Nat) (b0 b1 b2 b3 : Nat) (R : List Nat) (w : World) (h : RdS w w.heap.size 1 A n c (rowsV f8 (b0 :: b1 :: b2 :: b3 :: R))) (h0 : b0 < 256) (h1 : b1 < 256) (h2 : b2 < 256) (h3 : b3 < 256) :
    Calls Tryz.prog 78 #[.slice A n c] w fun e w' => e = .returned (.agg #[.int .i64 (b0 : Int), .int .i64 (65536 * (b1 : Int) + 256 * (b2 : Int) + (b3 : Int))]) ∧ Below w.heap.size w w' := by
  have hl := h.rlen f8_len (by decide)
  simp only [List.length_cons] at hl
  obtain ⟨bb, off, rfl, hbb, hp⟩ := byte_at h (by omega)
  have q0 := hp 0 b0 rfl
  have q1 := hp 1 b1 rfl
  have q2 := hp 2 b2 rfl
  have q3 := hp 3 b3 rfl
  rw [Nat.add_zero] at q0
  have hE : Ext w (w.alloc (.cells #[.int .i64 0, .int .i64 0] 41)) := below1 w _
  have HX : RowKit.Hid (Whole (w.alloc (.cells #[.int .i64 0, .int .i64 0] 41)) w.heap.size 41 [.int .i64 0, .int .i64 0]) := Lib.hid (Whole.new_ _ _ [_, _])
  have Q0 := Lib.hid (hE.cell q0)
  have Q1 := Lib.hid (hE.cell q1)
  have Q2 := Lib.hid (hE.cell q2)
  have Q3 := Lib.hid (hE.cell q3)
  have HE := Lib.hid hE
  have hm0 : 0 < n := by omega
  have hm1 : 1 < n := by omega
  have hm2 : 2 < n := by omega
  have hm3 : 3 < n := by omega
  have hn0 : (0 : Int) < (n : Int) := by omega
  have hn1 : (1 : Int) < (n : Int) := by omega
  have hn2 : (2 : Int) < (n : Int) := by omega
  have hn3 : (3 : Int) < (n : Int) := by omega
  have hd1 : decide ((n : Int) < 4) = false := decide_eq_false (by omega)
  have hd2 : decide (n < 4) = false := decide_eq_false (by omega)
  have w0 : IntKind.i64.wrap (b0 : Int) = (b0 : Int) := IntWalk.i64_in _ (by omega)
  have w1 : IntKind.i64.wrap (b1 : Int) = (b1 : Int) := IntWalk.i64_in _ (by omega)
  have w2 : IntKind.i64.wrap (b2 : Int) = (b2 : Int) := IntWalk.i64_in _ (by omega)
  have w3 : IntKind.i64.wrap (b3 : Int) = (b3 : Int) := IntWalk.i64_in _ (by omega)
  have w4 : IntKind.i64.wrap ((b1 : Int) * 65536) = (b1 : Int) * 65536 := IntWalk.i64_in _ (by omega)
  obtain ⟨x2, gx2⟩ : ∃ z, b2 * 256 = z := ⟨_, rfl⟩
  have w5 : IntKind.i64.wrap ((b2 : Int) * 256) = (x2 : Int) := by rw [IntWalk.i64_in _ (by omega)]; omega
  have o1 := i64_or_16 b1 x2 h1 (by omega)
  obtain ⟨x3, gx3⟩ : ∃ z, b1 * 256 + b2 = z := ⟨_, rfl⟩
  have o2 := i64_or_8 x3 b3 (by omega) h3
  obtain ⟨x4, gx4⟩ : ∃ z, b1 * 65536 + x2 = z := ⟨_, rfl⟩
  rw [show x3 * 256 = x4 by omega] at o2
  rw [gx4] at o1
  obtain ⟨x5, gx5⟩ : ∃ z, x4 + b3 = z := ⟨_, rfl⟩
  rw [gx5] at o2
  have Hx5 : RowKit.Hid (65536 * (b1 : Int) + 256 * (b2 : Int) + (b3 : Int) = (x5 : Int)) := Lib.hid (by omega)
  rw [Hx5.out]
  clear h hl hp q0 q1 q2 q3 hE gx2 gx3 gx4 gx5 hbb
  go_enter Tryz.func78, Tryz.ntmps78
  go_upto_region 3 with fail
  obtain ⟨w8, gw8⟩ : ∃ z, w.alloc (.cells #[.int .i64 0, .int .i64 0] 41) = z := ⟨_, rfl⟩
  obtain ⟨b9, gb9⟩ : ∃ z, w.heap.size = z := ⟨_, rfl⟩
  rw [gw8] at HX Q0 Q1 Q2 Q3 HE ⊢
  rw [gb9] at HX ⊢
  have Gb9 := Lib.hid gb9
  clear gw8 gb9 hd1 hd2
  have ld0 : ∀ w', Kept Nil_ w8.drew w' → w'.cell? ⟨bb, off, none⟩ = some (.int .u8 (b0 : Int)) := fun w' h => h.nil_cell (show w8.drew.cell? _ = _ from Q0.out)
  have ld1 : ∀ w', Kept Nil_ w8.drew w' → w'.cell? ⟨bb, off + 1, none⟩ = some (.int .u8 (b1 : Int)) := fun w' h => h.nil_cell (show w8.drew.cell? _ = _ from Q1.out)
  have ld2 : ∀ w', Kept Nil_ w8.drew w' → w'.cell? ⟨bb, off + 2, none⟩ = some (.int .u8 (b2 : Int)) := fun w' h => h.nil_cell (show w8.drew.cell? _ = _ from Q2.out)
  have ld3 : ∀ w', Kept Nil_ w8.drew w' → w'.cell? ⟨bb, off + 3, none⟩ = some (.int .u8 (b3 : Int)) := fun w' h => h.nil_cell (show w8.drew.cell? _ = _ from Q3.out)
  refine wp_region_tail (Nil_) [21] (by kernel_rfl) ?_
  apply wpT_next 0 (some 7) (by kernel_rfl)
  · rfl
  · rfl
  · kernel_rfl
  · kernel_rfl
  · kernel_rfl
  · exact fun _ _ _ _ h => h
  apply Exists.intro
  apply And.intro
  · apply yr_run; rfl; intro w' hw'; go_simp; (try with_reducible rfl)
  simp only [Act.put, stA_, st0_, st1_]
  apply wpT_next 1 (some 8) (by kernel_rfl)
  · rfl
  · rfl
  · kernel_rfl
  · kernel_rfl
  · kernel_rfl
  · exact fun _ _ _ _ h => h
  apply Exists.intro
  apply And.intro
  · apply yr_run; rfl; intro w' hw'; go_simp; (try with_reducible rfl)
  simp only [Act.put, stA_, st0_, st1_]
  apply wpT_next 2 (some 9) (by kernel_rfl)
  · rfl
  · rfl
  · kernel_rfl
  · kernel_rfl
  · kernel_rfl
  · exact fun _ _ _ _ h => h
  apply Exists.intro
  apply And.intro
  · apply yr_run; rfl; intro w' hw'; go_simp; (try with_reducible rfl)
  simp only [Act.put, stA_, st0_, st1_]
  apply wpT_next 3 (some 10) (by kernel_rfl)
  · rfl
  · rfl
  · kernel_rfl
  · kernel_rfl
  · kernel_rfl
  · exact fun _ _ _ _ h => h
  apply Exists.intro
  apply And.intro
  · apply yr_run; rfl; intro w' hw'; go_simp; (try with_reducible rfl)
  simp only [Act.put, stA_, st0_, st1_]
  apply wpT_next 4 (some 11) (by kernel_rfl)
  · rfl
  · rfl
  · kernel_rfl
  · kernel_rfl
  · kernel_rfl
  · exact fun _ _ _ _ h => h
  apply Exists.intro
  apply And.intro
  · apply yr_run; rfl; intro w' hw'; go_simp; (try with_reducible rfl)
  simp only [Act.put, stA_, st0_, st1_]
  apply wpT_next 5 (some 12) (by kernel_rfl)
  · rfl
  · rfl
  · kernel_rfl
  · kernel_rfl
  · kernel_rfl
  · exact fun _ _ _ _ h => h
  apply Exists.intro
  apply And.intro
  · apply yr_run; rfl; intro w' hw'; go_simp; (try with_reducible rfl)
  simp only [Act.put, stA_, st0_, st1_]
  apply wpT_next 6 (some 13) (by kernel_rfl)
  · rfl
  · rfl
  · kernel_rfl
  · kernel_rfl
  · kernel_rfl
  · exact fun _ _ _ _ h => h
  apply Exists.intro
  apply And.intro
  · apply yr_run; rfl; intro w' hw'; go_simp; (try with_reducible rfl)
  simp only [Act.put, stA_, st0_, st1_]
  apply wpT_next 7 (some 14) (by kernel_rfl)
  · rfl
  · rfl
  · kernel_rfl
  · kernel_rfl
  · kernel_rfl
  · exact fun _ _ _ _ h => h
  apply Exists.intro
  apply And.intro
  · apply yr_run; rfl; intro w' hw'; go_simp; (try with_reducible rfl)
  simp only [Act.put, stA_, st0_, st1_]
  apply wpT_next 8 (some 15) (by kernel_rfl)
  · rfl
  · rfl
  · kernel_rfl
  · kernel_rfl
  · kernel_rfl
  · exact fun _ _ _ _ h => h
  apply Exists.intro
  apply And.intro
  · apply yr_run; rfl; intro w' hw'; go_simp; (try with_reducible rfl)
  simp only [Act.put, stA_, st0_, st1_]
  apply wpT_next 9 (some 16) (by kernel_rfl)
  · rfl
  · rfl
  · kernel_rfl
  · kernel_rfl
  · kernel_rfl
  · exact fun _ _ _ _ h => h
  apply Exists.intro
  apply And.intro
  · apply yr_run; rfl; intro w' hw'; go_simp; (try with_reducible rfl)
  simp only [Act.put, stA_, st0_, st1_]
  apply wpT_next 10 (some 17) (by kernel_rfl)
  · rfl
  · rfl
  · kernel_rfl
  · kernel_rfl
  · kernel_rfl
  · exact fun _ _ _ _ h => h
  apply Exists.intro
  apply And.intro
  · apply yr_run; rfl; intro w' hw'; go_simp; (try with_reducible rfl)
  simp only [Act.put, stA_, st0_, st1_]
  apply wpT_next 11 (some 18) (by kernel_rfl)
  · rfl
  · rfl
  · kernel_rfl
  · kernel_rfl
  · kernel_rfl
  · exact fun _ _ _ _ h => h
  apply Exists.intro
  apply And.intro
  · apply yr_run; rfl; intro w' hw'; go_simp; (try with_reducible rfl)
  simp only [Act.put, stA_, st0_, st1_]
  apply wpT_next 12 (some 19) (by kernel_rfl)
  · rfl
  · rfl
  · kernel_rfl
  · kernel_rfl
  · kernel_rfl
  · exact fun _ _ _ _ h => h
  apply Exists.intro
  apply And.intro
  · apply yr_run; rfl; intro w' hw'; go_simp; (try with_reducible rfl)
  simp only [Act.put, stA_, st0_, st1_]
  apply wpT_next 13 (some 20) (by kernel_rfl)
  · rfl
  · rfl
  · kernel_rfl
  · kernel_rfl
  · kernel_rfl
  · exact fun _ _ _ _ h => h
  apply Exists.intro
  apply And.intro
  · apply yr_run; rfl; intro w' hw'; go_simp; (try with_reducible rfl)
  simp only [Act.put, stA_, st0_, st1_]
  apply wpT_next 14 (some 21) (by kernel_rfl)
  · rfl
  · rfl
  · kernel_rfl
  · kernel_rfl
  · kernel_rfl
  · exact fun _ _ _ _ h => h
  apply Exists.intro
  apply And.intro
  · apply yr_run; rfl; intro w' hw'; go_simp; (try with_reducible rfl)
  simp only [Act.put, stA_, st0_, st1_]
  apply wpT_next 15 (some 22) (by kernel_rfl)
  · rfl
  · rfl
  · kernel_rfl
  · kernel_rfl
  · kernel_rfl
  · exact fun _ _ _ _ h => h
  apply Exists.intro
  apply And.intro
  · apply yr_run; rfl; intro w' hw'; go_simp; (try with_reducible rfl)
  simp only [Act.put, stA_, st0_, st1_]
  apply wpT_next 16 (some 23) (by kernel_rfl)
  · rfl
  · rfl
  · kernel_rfl
  · kernel_rfl
  · kernel_rfl
  · exact fun _ _ _ _ h => h
  apply Exists.intro
  apply And.intro
  · apply yr_run; rfl; intro w' hw'; go_simp; (try with_reducible rfl)
  simp only [Act.put, stA_, st0_, st1_]
  apply wpT_next 17 (some 24) (by kernel_rfl)
  · rfl
  · rfl
  · kernel_rfl
  · kernel_rfl
  · kernel_rfl
  · exact fun _ _ _ _ h => h
  apply Exists.intro
  apply And.intro
  · apply yr_run; rfl; intro w' hw'; go_simp; (try with_reducible rfl)
  simp only [Act.put, stA_, st0_, st1_]
  apply wpT_next 18 (some 25) (by kernel_rfl)
  · rfl
  · rfl
  · kernel_rfl
  · kernel_rfl
  · kernel_rfl
  · exact fun _ _ _ _ h => h
  apply Exists.intro
  apply And.intro
  · apply yr_run; rfl; intro w' hw'; go_simp; (try with_reducible rfl)
  simp only [Act.put, stA_, st0_, st1_]
  apply wpT_next 19 (some 26) (by kernel_rfl)
  · rfl
  · rfl
  · kernel_rfl
  · kernel_rfl
  · kernel_rfl
  · exact fun _ _ _ _ h => h
  apply Exists.intro
  apply And.intro
  · apply yr_run; rfl; intro w' hw'; go_simp; (try with_reducible rfl)
  simp only [Act.put, stA_, st0_, st1_]
  apply wpT_next 20 (some 27) (by kernel_rfl)
  · rfl
  · rfl
  · kernel_rfl
  · kernel_rfl
  · kernel_rfl
  · exact fun _ _ _ _ h => h
  apply Exists.intro
  apply And.intro
  · apply yr_run; rfl; intro w' hw'; go_simp; (try with_reducible rfl)
  simp only [Act.put, stA_, st0_, st1_]
  apply wpT_last 21
  · rfl
  · rfl
  · kernel_rfl
  · rfl
  · decide
  intro w' hw'
  refine ⟨w'.setRow b9 #[.int .i64 (b0 : Int), .int .i64 (x5 : Int)], store_row_run 41 (.tmp 2) (.tmp 27) rfl b9 rfl [.int .i64 (b0 : Int), .int .i64 (x5 : Int)] rfl 41 [.int .i64 0, .int .i64 0] (HX.out.bl (Ext.trans (below_drewN w8.heap.size w8 1) hw')) (by kernel_rfl) rfl (by simp [Value.oneCell']), ?_⟩
  have HX8 : RowKit.Hid (Whole (w'.setRow b9 #[.int .i64 (b0 : Int), .int .i64 (x5 : Int)]) b9 41 [.int .i64 (b0 : Int), .int .i64 (x5 : Int)]) := Lib.hid (Whole.row (HX.out.bl (Ext.trans (below_drewN w8.heap.size w8 1) hw')) [_, _])
  have HB8 : RowKit.Hid (Below w.heap.size w (w'.setRow b9 #[.int .i64 (b0 : Int), .int .i64 (x5 : Int)])) := Lib.hid (below_row (Ext.trans HE.out (Ext.trans (below_drewN w8.heap.size w8 1) hw')) (Nat.le_of_eq Gb9.out) _)
  clear hw' 
  try simp only [Act.put, stA_, st0_, st1_]
  refine wpT_done (by kernel_rfl) ?_ _
  intro w10 hw10
  have HX9 := Lib.hid (HX8.out.bl hw10)
  have HB9 := Lib.hid (bel_bl HB8.out hw10)
  clear hw10
  go_wp2
  exact ret_whole rfl b9 rfl HX9.out Tryz.underlying41 rfl (by kernel_rfl) rfl ⟨rfl, HB9.out⟩
end Go.Proofs.YtmkflebkifbpfaaGreat
/- ident.Take of four bytes. -/
namespace Go.Proofs.YtmkflebkifbpfaaGreat
open Go.RowKit
theorem kept_setRow {S : Nat → Prop} (w : World) (g : Nat) (hS : S g) (cs : Array Value) : Kept S w (w.setRow g cs) := ⟨rfl, rfl, rfl, by simp [World.setRow], fun i _ hn => setRow_other w g i cs (fun e => hn (by rw [e]; exact hS))⟩
set_option maxRecDepth 100000 in
set_option maxHeartbeats 4000000 in
theorem idtake_any (A : Option Addr) (c : Nat) (b0 b1 b2 b3 : Nat) (R : List Nat) (w : World) (h : RdS w w.heap.size 1 A (b0 :: b1 :: b2 :: b3 :: R).length c (rowsV f8 (b0 :: b1 :: b2 :: b3 :: R))) (h0 : b0 < 256) (h1 : b1 < 256) (h2 : b2 < 256) (h3 : b3 < 256) (hn : (b0 :: b1 :: b2 :: b3 :: R).length ≤ 100000) :
    Calls Tryz.prog 57 #[.slice A (b0 :: b1 :: b2 :: b3 :: R).length c] w fun e w' => ∃ A' n' c' ok, e = .returned (.tuple #[.agg #[.int .i64 (tk4 (b0 :: b1 :: b2 :: b3 :: R)).1, .int .i64 (tk4 (b0 :: b1 :: b2 :: b3 :: R)).2], .slice A' n' c', .bool ok]) ∧ Below w.heap.size w w' := by
  have HF := Lib.hid (fun W h => first_any A (b0 :: b1 :: b2 :: b3 :: R).length c b0 b1 b2 b3 R W h h0 h1 h2 h3)
  have hlow := h.low_ (k := 4) (by simp)
  have hdl : ((b0 :: b1 :: b2 :: b3 :: R).drop 4).length = (b0 :: b1 :: b2 :: b3 :: R).length - 4 := List.length_drop
  rw [show (rowsV f8 (b0 :: b1 :: b2 :: b3 :: R)).drop (4 * 1) = rowsV f8 R from rfl, show (b0 :: b1 :: b2 :: b3 :: R).length - 4 = R.length from by simp] at hlow
  obtain ⟨A1, hA1⟩ : ∃ A1, (if c = 4 then A else A.map (·.add (4 * 1))) = A1 := ⟨_, rfl⟩
  rw [hA1] at hlow
  have hl : (b0 :: b1 :: b2 :: b3 :: R).length = R.length + 4 := by simp
  have HC1 := Lib.hid (fun W (hW : Ext w W) => clone8 A1 (c - 4) R W (hlow.up hW hW.size) (by omega))
  have HC2 := Lib.hid (fun W (hW : Ext w W) => clone8 A c (b0 :: b1 :: b2 :: b3 :: R) W (h.up hW hW.size) hn)
  have ht : tk4 (b0 :: b1 :: b2 :: b3 :: R) = if mayI (b0 : Int) (65536 * (b1 : Int) + 256 * (b2 : Int) + (b3 : Int)) = true then ((b0 : Int), 65536 * (b1 : Int) + 256 * (b2 : Int) + (b3 : Int)) else (0, 0) := rfl
  obtain ⟨s, gs⟩ : ∃ z : Int, (b0 : Int) = z := ⟨_, rfl⟩
  obtain ⟨k, gk⟩ : ∃ z : Int, 65536 * (b1 : Int) + 256 * (b2 : Int) + (b3 : Int) = z := ⟨_, rfl⟩
  rw [gs, gk] at HF ht
  have HR := Lib.hid h
  obtain ⟨M, gM⟩ : ∃ z, b0 :: b1 :: b2 :: b3 :: R = z := ⟨_, rfl⟩
  rw [gM] at HF HC2 ht HR hl ⊢
  obtain ⟨m, gm⟩ : ∃ z, M.length = z := ⟨_, rfl⟩
  rw [gm] at HF HC2 HR hl ⊢
  have Gm := Lib.hid gm
  obtain ⟨r, gr⟩ : ∃ z, R.length = z := ⟨_, rfl⟩
  rw [gr] at HC1 hl
  have Gr := Lib.hid gr
  have HAr := Lib.hid hA1
  have Hm4 : RowKit.Hid (4 ≤ m ∧ m - 4 = r) := Lib.hid (by omega)
  obtain ⟨my, gmy⟩ : ∃ z, mayI s k = z := ⟨_, rfl⟩
  have HMy : RowKit.Hid (∀ W, Calls Tryz.prog 66 #[.agg #[.int .i64 s, .int .i64 k]] W fun e w' => e = .returned (.bool my) ∧ Below W.heap.size W w') := Lib.hid (fun W => gmy ▸ may_any s k W)
  rw [gmy] at ht
  obtain ⟨⟨t1, t2⟩, gt⟩ : ∃ z, tk4 M = z := ⟨_, rfl⟩
  rw [gt] at ht ⊢
  have Ht := Lib.hid ht
  have HX0 : RowKit.Hid (Whole (w.alloc (.cells #[.int .i64 0, .int .i64 0] 41)) w.heap.size 41 [.int .i64 0, .int .i64 0]) := Lib.hid (Whole.new_ _ _ [_, _])
  have HE0 : RowKit.Hid (Ext w (w.alloc (.cells #[.int .i64 0, .int .i64 0] 41))) := Lib.hid (below1 w _)
  have HR0 := Lib.hid (HR.out.al (.cells #[.int .i64 0, .int .i64 0] 41))
  clear h hlow hdl gs gk gM gm gr hA1 hl hn gmy gt ht
  go_enter Tryz.func57, Tryz.ntmps57
  go_upto_region 1 with fail
  obtain ⟨w0, gw0⟩ : ∃ z, w.alloc (.cells #[.int .i64 0, .int .i64 0] 41) = z := ⟨_, rfl⟩
  obtain ⟨b, gb⟩ : ∃ z, w.heap.size = z := ⟨_, rfl⟩
  rw [gw0] at HX0 HE0 HR0 ⊢
  rw [gb] at HX0 ⊢
  have Gb := Lib.hid gb
  clear gw0 gb
  go_upto_region 2 with (first
    | (go_at_call 78
       refine (HF.out _ HR0.out).mono ?_
       rintro e w1 ⟨rfl, hb1⟩
       have HX1 := Lib.hid ((HX0.out.bl hb1).al (.cells #[.int .i64 s, .int .i64 k] 41))
       have HE1 : RowKit.Hid (Ext w (w1.alloc (.cells #[.int .i64 s, .int .i64 k] 41))) := Lib.hid (Ext.trans (Ext.trans HE0.out hb1) (below1 w1 _))
       have HY1 : RowKit.Hid (Whole (w1.alloc (.cells #[.int .i64 s, .int .i64 k] 41)) w1.heap.size 41 [.int .i64 s, .int .i64 k]) := Lib.hid (Whole.new_ _ _ [_, _])
       have HN1 : RowKit.Hid (w1.heap.size ≠ b) := Lib.hid (by have := (HX0.out.bl hb1).lt; omega)
       clear hb1))
  obtain ⟨w2, gw2⟩ : ∃ z, w1.alloc (.cells #[.int .i64 s, .int .i64 k] 41) = z := ⟨_, rfl⟩
  obtain ⟨b5, gb5⟩ : ∃ z, w1.heap.size = z := ⟨_, rfl⟩
  rw [gw2] at HX1 HE1 HY1 ⊢
  rw [gb5] at HY1 HN1 ⊢
  clear gw2 gb5 HX0 HE0 HR0 HF
  have d0 := HY1.out.cell (i := 0) rfl
  have d1 := HY1.out.cell (i := 1) rfl
  cases my with
  | false =>
    have ht := Ht.out
    rw [if_neg (by decide)] at ht
    injection ht with e1 e2
    subst e1 e2
    go_upto_region 3 with (first
      | (go_at_call 66
         refine (HMy.out _).mono ?_
         rintro e w3 ⟨rfl, hb3⟩
         have HX3 := Lib.hid (HX1.out.bl hb3)
         have HE3 := Lib.hid (Ext.trans HE1.out hb3)
         clear hb3 d0 d1))
    go_wp2_with (first
      | (go_at_call 79
         refine (HC2.out _ HE3.out).mono ?_
         rintro e w4 ⟨A4, c4, rfl, -, -, -, hb4⟩
         rw [Gm.out]
         have HX4 := Lib.hid (HX3.out.bl hb4)
         have HE4 : RowKit.Hid (Ext w w4) := Lib.hid (Ext.trans HE3.out hb4)
         have q0 := HX4.out.cell (i := 0) rfl
         have q1 := HX4.out.cell (i := 1) rfl
         have f0 := HX4.out.free 0
         have f1 := HX4.out.free 1
         clear hb4))
    have HXz := (HX4.out.set_ 0 (.int .i64 0)).set_ 1 (.int .i64 0)
    have HBz := ((show Below w.heap.size w w4 from HE4.out).setCell (p := ⟨b, 0, none⟩) (by show w.heap.size ≤ b; exact Nat.le_of_eq Gb.out) (.int .i64 0)).setCell (p := ⟨b, 1, none⟩) (by show w.heap.size ≤ b; exact Nat.le_of_eq Gb.out) (.int .i64 0)
    exact ret_whole3 rfl b rfl rfl rfl HXz Tryz.underlying41 rfl (by kernel_rfl) rfl ⟨A4, m, c4, false, rfl, HBz⟩
  | true =>
    have ht := Ht.out
    rw [if_pos rfl] at ht
    injection ht with e1 e2
    subst e1 e2
    go_upto_region 4 with (first
      | (go_at_call 66
         refine (HMy.out _).mono ?_
         rintro e w3 ⟨rfl, hb3⟩
         have HX3 := Lib.hid (HX1.out.bl hb3)
         have HE3 : RowKit.Hid (Ext w w3) := Lib.hid (Ext.trans HE1.out hb3)
         have HY3 := Lib.hid (HY1.out.bl hb3)
         clear hb3 d0 d1))
    have HDr : RowKit.Hid (Ext w3 w3.drew) := Lib.hid (below_drewN w3.heap.size w3 1)
    have ld0 : ∀ w', Kept (fun i => i = b) w3.drew w' → w'.cell? ⟨b5, 0, none⟩ = some (.int .i64 t1) := fun w' h => h.cell (HY3.out.dr.cell (i := 0) rfl) HN1.out
    have ld1 : ∀ w', Kept (fun i => i = b) w3.drew w' → w'.cell? ⟨b5, 1, none⟩ = some (.int .i64 t2) := fun w' h => h.cell (HY3.out.dr.cell (i := 1) rfl) HN1.out
    refine wp_region_reg (fun i => i = b) (by kernel_rfl) ?_
    refine opR_ 0 14 (v := ?_) ?_ ?_; rotate_left
    · intro w' hw'; go_simp; (try with_reducible rfl)
    simp only [st0_, st1_]
    refine opR_ 1 15 (v := ?_) ?_ ?_; rotate_left
    · intro w' hw'; go_simp; (try with_reducible rfl)
    simp only [st0_, st1_]
    refine opX_ 2 16 ?_
    apply Exists.intro
    apply And.intro
    · apply yr_run; rfl; intro w' hw'; exact exec_slice_low_as 27 5 (.tmp 15) (.const (.int .i64 4)) rfl Tryz.underlying27 (s := 1) (by kernel_rfl) rfl rfl Hm4.out.1 HAr.out Hm4.out.2 rfl
    simp only [st0_, st1_]
    apply wpR_call 3 (some 17)
    · rfl
    · rfl
    · kernel_rfl
    · rfl
    · intro w'; go_simp; first | done | exact ⟨rfl, rfl⟩ | with_reducible rfl
    intro w' hw'
    have hE := Ext.trans HDr.out hw'
    refine (HC1.out w' (Ext.trans HE3.out hE)).mono ?_
    rintro e w4 ⟨A4, c4, rfl, -, -, -, hb4⟩
    rw [Gr.out]
    refine ⟨_, rfl, Kept.of_below hb4, ?_⟩
    have HX4 := Lib.hid (HX3.out.bl (Ext.trans hE hb4))
    have HE4 : RowKit.Hid (Ext w w4) := Lib.hid (Ext.trans HE3.out (Ext.trans hE hb4))
    clear hE hb4 hw' ld0 ld1
    simp only [Act.put, stA_, st0_, st1_]
    apply wpR_store 4
    · rfl
    · rfl
    · kernel_rfl
    · rfl
    intro w' hw'
    refine ⟨w'.setRow b #[.int .i64 t1, .int .i64 t2], store_row_run 41 (.tmp 2) (.tmp 14) rfl b rfl [.int .i64 t1, .int .i64 t2] rfl 41 [.int .i64 0, .int .i64 0] (HX4.out.bl hw') (by kernel_rfl) rfl (by simp [Value.oneCell']), kept_setRow (S := fun i => i = b) w' b rfl _, ?_⟩
    have HX5 : RowKit.Hid (Whole (w'.setRow b #[.int .i64 t1, .int .i64 t2]) b 41 [.int .i64 t1, .int .i64 t2]) := Lib.hid (Whole.row (HX4.out.bl hw') [_, _])
    have HB5 : RowKit.Hid (Below w.heap.size w (w'.setRow b #[.int .i64 t1, .int .i64 t2])) := Lib.hid (below_row (Ext.trans HE4.out hw') (Nat.le_of_eq Gb.out) _)
    clear hw' 
    try simp only [Act.put, stA_, st0_, st1_]
    refine opR_ 5 3 (v := ?_) ?_ ?_; rotate_left
    · intro w' hw'; go_simp; (try with_reducible rfl)
    simp only [st0_, st1_]
    refine opR_ 6 4 (v := ?_) ?_ ?_; rotate_left
    · intro w' hw'; go_simp; (try with_reducible rfl)
    simp only [st0_, st1_]
    refine wpR_done (by kernel_rfl) ?_ _
    intro w10 hw10
    have HX9 := Lib.hid (HX5.out.bl hw10)
    have HB9 := Lib.hid (bel_bl HB5.out hw10)
    clear hw10
    go_wp2
    exact ret_whole3 rfl b rfl rfl rfl HX9.out Tryz.underlying41 rfl (by kernel_rfl) rfl ⟨A4, r, c4, true, rfl, HB9.out⟩
end Go.Proofs.YtmkflebkifbpfaaGreat
/- The reader: head. -/
namespace Go.Proofs.YtmkflebkifbpfaaGreat
open Go.RowKit
theorem grown_setnew {w w1 : World} {r : Option Nat} (h : w.grownBy w1 r) {b : Nat} (hb : w.heap.size ≤ b) (i : Nat) (u : Value) : w.grownBy (w1.setCell ⟨b, i, none⟩ u) r := ⟨h.os, h.tape, h.output, by simpa using h.size, fun k hk hne => (heap_setCell_other w1 ⟨b, i, none⟩ k u (fun e => by have e2 : k = b := e; omega)).trans (h.block k hk hne)⟩
theorem RdAt.ext {lo : Nat} {w w' : World} {g : Nat} {R : List Nat} (h : RdAt lo w g R) (hb : Ext w w') : RdAt lo w' g R := by
  obtain ⟨A, n, c, h1, h2, h3⟩ := h
  exact ⟨A, n, c, h1.bl hb, h2.bl hb, h3⟩
theorem RdAt.set {lo : Nat} {w : World} {g b i : Nat} {R : List Nat} {t : TypeId} {cs : List Value} {v : Value} (h : RdAt lo w g R) (hx : Whole w b t cs) (ht : t ≠ 62) (hc : cs[i]? = some v) (hv : ∀ b : Nat, v ≠ .int .u8 (b : Int)) (u : Value) : RdAt lo (w.setCell ⟨b, i, none⟩ u) g R := by
  obtain ⟨A, n, c, h1, h2, h3⟩ := h
  refine ⟨A, n, c, h1.set_far' (h1.ne_ hx (Ne.symm ht)) u, ?_, h3⟩
  have h9 := rds_poke h2 (hx.cell hc) (fun q => by
    rw [rowsV_map8] at q
    obtain ⟨b, -, e⟩ := List.mem_map.1 q
    exact hv b e.symm) u
  have e : (w.setCell ⟨b, i, none⟩ u).heap.size = w.heap.size := by simp
  rw [e]
  exact h9
theorem RdAt.grown {lo : Nat} {w w' : World} {g : Nat} {R : List Nat} {r : Option Nat} (h : RdAt lo w g R) (hg : w.grownBy w' r) (hne : some g ≠ r) (hr : ∀ k, r = some k → lo ≤ k) : RdAt lo w' g R := by
  obtain ⟨A, n, c, h1, h2, h3, h4⟩ := h
  exact ⟨A, n, c, h1.grown hg hne, h2.grown hg (fun a ha hn e => by have := hr _ e.symm; have := h4 a ha hn; omega), h3, h4⟩
theorem nx_four (L : List Nat) : ∃ b0 b1 b2 b3, nx 4 L = [b0, b1, b2, b3] := by
  have h := nx_len 4 L
  match nx 4 L, h with
  | [a, b, c, d], _ => exact ⟨a, b, c, d, rfl⟩
set_option maxRecDepth 100000 in
set_option maxHeartbeats 4000000 in
theorem head_at (lo g : Nat) (L : List Nat) (w : World) (h : RdAt lo w g L) (hb : ∀ b ∈ L, b < 256) :
    Calls Tryz.prog 32 #[.pointer (some ⟨g, 0, none⟩)] w fun e w' => e = .returned (.tuple #[.agg #[.int .i64 (rdId L).1, .int .i64 (rdId L).2], .string (rdTx L), .int .i64 (rdAt L)]) ∧ RdAt lo w' g (rdH L) ∧ w.grownBy w' (some g) := by
  obtain ⟨b0, b1, b2, b3, e4⟩ := nx_four L
  have h4 := nx_lt hb 4
  rw [e4] at h4
  have HN4 := Lib.hid (fun W h => next_at lo g 4 L W h (by omega))
  rw [e4] at HN4
  have hid : rdId L = tk4 [b0, b1, b2, b3] := by unfold rdId; rw [e4]
  obtain ⟨t1, t2⟩ : True ∧ True := ⟨trivial, trivial⟩
  obtain ⟨⟨i1, i2⟩, gid⟩ : ∃ z, rdId L = z := ⟨_, rfl⟩
  rw [gid] at hid ⊢
  have HT := Lib.hid (fun A c W h => idtake_any A c b0 b1 b2 b3 [] W h (h4 b0 (by simp)) (h4 b1 (by simp)) (h4 b2 (by simp)) (h4 b3 (by simp)) (by simp))
  rw [← hid] at HT
  have hb1 : ∀ b ∈ L.drop 4, b < 256 := fun b q => hb b (List.mem_of_mem_drop q)
  have HC := Lib.hid (fun W h => count_at lo g (L.drop 4) W h hb1)
  have hc := byte_lt hb1
  have HN := Lib.hid (fun W h => next_at lo g (c1 (L.drop 4)) ((L.drop 4).drop 1) W h (by omega))
  have etx : rdTx L = txt (nx (c1 (L.drop 4)) ((L.drop 4).drop 1)) := rfl
  have el2 : ((L.drop 4).drop 1).drop (c1 (L.drop 4)) = rdL2 L := rfl
  rw [el2] at HN
  have hlen := nx_len (c1 (L.drop 4)) ((L.drop 4).drop 1)
  obtain ⟨c, gc⟩ : ∃ z, c1 (L.drop 4) = z := ⟨_, rfl⟩
  rw [gc] at HC HN etx hc hlen
  obtain ⟨M, gM⟩ : ∃ z, nx c ((L.drop 4).drop 1) = z := ⟨_, rfl⟩
  rw [gM] at HN etx hlen
  obtain ⟨tx, gtx⟩ : ∃ z, rdTx L = z := ⟨_, rfl⟩
  rw [gtx] at etx ⊢
  have HV : RowKit.Hid (∀ (A : Option Addr) (cc : Nat) W, RdS W W.heap.size 1 A c cc (rowsV f8 M) → (convert 27 9 (.slice A c cc)).run Tryz.prog W = .ok (.string tx) W) := Lib.hid (fun A cc W h => etx ▸ conv_txt h)
  have Hlen := Lib.hid hlen
  have hb2 : ∀ b ∈ rdL2 L, b < 256 := fun b q => hb1 b (List.mem_of_mem_drop (List.mem_of_mem_drop q))
  have HN8 := Lib.hid (fun W h => next_at lo g 8 (rdL2 L) W h (by omega))
  have h8 := nx_lt hb2 8
  have eat : num8 ((nx 8 (rdL2 L)).take 8) = rdAt L := by
    rw [List.take_of_length_le (by rw [nx_len]; omega)]
    rfl
  have er : (rdL2 L).drop 8 = rdH L := rfl
  rw [er] at HN8
  have HNu : RowKit.Hid (∀ (q : Nat) W, Whole W q 5 (rowsV f8 (nx 8 (rdL2 L))) → Calls Tryz.prog 58 #[.slice (some ⟨q, 0, none⟩) 8 8] W fun e w' => e = .returned (.int .i64 (rdAt L)) ∧ W = w') := Lib.hid (fun q W h => by
    have h9 := number_any (some ⟨q, 0, none⟩) 8 8 (nx 8 (rdL2 L)) W (RdS.of_whole8 h (by rw [rows8_len, nx_len])) (Nat.le_refl _) h8
    rw [eat] at h9
    exact h9)
  obtain ⟨N8, gN8⟩ : ∃ z, nx 8 (rdL2 L) = z := ⟨_, rfl⟩
  rw [gN8] at HN8 HNu
  obtain ⟨va, gva⟩ : ∃ z, rdAt L = z := ⟨_, rfl⟩
  rw [gva] at HNu ⊢
  obtain ⟨L2, gL2⟩ : ∃ z, rdL2 L = z := ⟨_, rfl⟩
  rw [gL2] at HN HN8
  obtain ⟨L3, gL3⟩ : ∃ z, rdH L = z := ⟨_, rfl⟩
  rw [gL3] at HN8 ⊢
  obtain ⟨R5, gR5⟩ : ∃ z, (L.drop 4).drop 1 = z := ⟨_, rfl⟩
  rw [gR5] at HC HN
  obtain ⟨R4, gR4⟩ : ∃ z, L.drop 4 = z := ⟨_, rfl⟩
  rw [gR4] at HC HN4
  have HRa := Lib.hid h
  have HX0 : RowKit.Hid (Whole (w.alloc (.cells #[.int .i64 0, .int .i64 0] 41)) w.heap.size 41 [.int .i64 0, .int .i64 0]) := Lib.hid (Whole.new_ _ _ [_, _])
  have HE0 : RowKit.Hid (Ext w (w.alloc (.cells #[.int .i64 0, .int .i64 0] 41))) := Lib.hid (below1 w _)
  clear h hb e4 h4 hid gid hb1 hc etx el2 hlen gc gM gtx hb2 h8 eat er gN8 gva gL2 gL3 gR5 gR4 t1 t2
  go_enter Tryz.func32, Tryz.ntmps32
  go_upto_region 1 with fail
  have HR0 := Lib.hid (HRa.out.ext HE0.out)
  obtain ⟨w0, gw0⟩ : ∃ z, w.alloc (.cells #[.int .i64 0, .int .i64 0] 41) = z := ⟨_, rfl⟩
  obtain ⟨b, gb⟩ : ∃ z, w.heap.size = z := ⟨_, rfl⟩
  rw [gw0] at HX0 HE0 HR0 ⊢
  rw [gb] at HX0 ⊢
  have Gb := Lib.hid gb
  clear gw0 gb HRa
  go_upto_region 2 with (first
    | (go_at_call 56
       refine (HN4.out _ HR0.out).mono ?_
       rintro e w1 ⟨q, rfl, hq, hwq, hra, hgr⟩
       have HR1 := Lib.hid hra
       have HX1 : RowKit.Hid (Whole w1 b 41 [.int .i64 0, .int .i64 0]) := Lib.hid (by
         obtain ⟨A, n, cc, q1, -⟩ := hra
         obtain ⟨A', n', cc', q2, -⟩ := HR0.out
         exact HX0.out.grown hgr (fun e => HX0.out.ne_ q2 (by decide) (Option.some.inj e)))
       have HG1 : RowKit.Hid (w.grownBy w1 (some g)) := Lib.hid (ext_grow HE0.out hgr)
       have HQ1 := Lib.hid (RdS.of_whole8 (n := 4) (size := 1) hwq rfl)
       clear hq hwq hra hgr)
    | (go_at_call 57
       refine (HT.out _ _ _ HQ1.out).mono ?_
       rintro e w2 ⟨A2, n2, c2, ok, rfl, hb2⟩
       have HR2 := Lib.hid (HR1.out.ext hb2)
       have HX2 := Lib.hid (HX1.out.bl hb2)
       have HG2 := Lib.hid (grown_ext HG1.out hb2)
       have q0 := HX2.out.cell (i := 0) rfl
       have q1 := HX2.out.cell (i := 1) rfl
       have f0 := HX2.out.free 0
       have f1 := HX2.out.free 1
       clear hb2))
  clear q0 q1 f0 f1 HX0 HE0 HR0 HR1 HX1 HG1 HQ1 HN4 HT
  have HX3 := Lib.hid ((HX2.out.set_ 0 (.int .i64 i1)).set_ 1 (.int .i64 i2))
  have HR3 := Lib.hid ((HR2.out.set (i := 0) HX2.out (by decide) rfl (fun b e => by cases e) (.int .i64 i1)).set (i := 1) (HX2.out.set_ 0 (.int .i64 i1)) (by decide) rfl (fun b e => by cases e) (.int .i64 i2))
  have HG3 := Lib.hid (grown_setnew (grown_setnew HG2.out (Nat.le_of_eq Gb.out) 0 (.int .i64 i1)) (Nat.le_of_eq Gb.out) 1 (.int .i64 i2))
  obtain ⟨w3, gw3⟩ : ∃ z, (w2.setCell ⟨b, 0, none⟩ (.int .i64 i1)).setCell ⟨b, 1, none⟩ (.int .i64 i2) = z := ⟨_, rfl⟩
  rw [gw3] at HX3 HR3 HG3 ⊢
  replace HX3 : RowKit.Hid (Whole w3 b 41 [.int .i64 i1, .int .i64 i2]) := HX3
  clear gw3 HX2 HR2 HG2
  go_upto_region 3 with (first
    | (go_at_call 31
       refine (HC.out _ HR3.out).mono ?_
       rintro e w4 ⟨rfl, hra, hgr⟩
       have HR4 := Lib.hid hra
       have HX4 : RowKit.Hid (Whole w4 b 41 [.int .i64 i1, .int .i64 i2]) := Lib.hid (by
         obtain ⟨A', n', cc', q2, -⟩ := HR3.out
         exact HX3.out.grown hgr (fun e => HX3.out.ne_ q2 (by decide) (Option.some.inj e)))
       have HG4 : RowKit.Hid (w.grownBy w4 (some g)) := Lib.hid (grown_two HG3.out hgr)
       clear hra hgr)
    | (go_at_call 56
       refine (HN.out _ HR4.out).mono ?_
       rintro e w5 ⟨q, rfl, hq, hwq, hra, hgr⟩
       have HR5 := Lib.hid hra
       have HX5 : RowKit.Hid (Whole w5 b 41 [.int .i64 i1, .int .i64 i2]) := Lib.hid (by
         obtain ⟨A', n', cc', q2, -⟩ := HR4.out
         exact HX4.out.grown hgr (fun e => HX4.out.ne_ q2 (by decide) (Option.some.inj e)))
       have HG5 : RowKit.Hid (w.grownBy w5 (some g)) := Lib.hid (grown_two HG4.out hgr)
       have hcv := HV.out _ _ _ (RdS.of_whole8 (n := c) hwq (by rw [rows8_len, Hlen.out, Nat.mul_one]))
       clear hq hwq hra hgr))
  clear hcv HX3 HR3 HG3 HX4 HR4 HG4 HC HN HV
  have Hgb : RowKit.Hid (b ≠ g) := Lib.hid (by
    obtain ⟨A', n', cc', q2, -⟩ := HR5.out
    exact HX5.out.ne_ q2 (by decide))
  have HDr : RowKit.Hid (Ext w5 w5.drew) := Lib.hid (below_drewN w5.heap.size w5 1)
  have ld0 : ∀ w', Kept (fun i => i = g) w5.drew w' → w'.cell? ⟨b, 0, none⟩ = some (.int .i64 i1) := fun w' h => h.cell (HX5.out.dr.cell (i := 0) rfl) Hgb.out
  have ld1 : ∀ w', Kept (fun i => i = g) w5.drew w' → w'.cell? ⟨b, 1, none⟩ = some (.int .i64 i2) := fun w' h => h.cell (HX5.out.dr.cell (i := 1) rfl) Hgb.out
  refine wp_region_reg (fun i => i = g) (by kernel_rfl) ?_
  refine opR_ 0 17 (v := ?_) ?_ ?_; rotate_left
  · intro w' hw'; go_simp; (try with_reducible rfl)
  simp only [st0_, st1_]
  refine opR_ 1 18 (v := ?_) ?_ ?_; rotate_left
  · intro w' hw'; go_simp; (try with_reducible rfl)
  simp only [st0_, st1_]
  refine opR_ 2 19 (v := ?_) ?_ ?_; rotate_left
  · intro w' hw'; go_simp; (try with_reducible rfl)
  simp only [st0_, st1_]
  apply wpR_call 3 (some 20)
  · rfl
  · rfl
  · kernel_rfl
  · rfl
  · intro w'; go_simp; first | done | exact ⟨rfl, rfl⟩ | with_reducible rfl
  intro w' hw'
  have hE := Ext.trans HDr.out hw'
  refine (HN8.out w' (HR5.out.ext hE)).mono ?_
  rintro e w6 ⟨q, rfl, hq, hwq, hra, hgr⟩
  refine ⟨_, rfl, kept_grow hgr (fun i e => Option.some.inj e), ?_⟩
  have HR6 := Lib.hid hra
  have HX6 := Lib.hid ((HX5.out.bl hE).grown hgr (fun e => Hgb.out (Option.some.inj e)))
  have HG6 : RowKit.Hid (w.grownBy w6 (some g)) := Lib.hid (grown_two (grown_ext HG5.out hE) hgr)
  have HQ6 := Lib.hid hwq
  clear hE hw' hq hwq hra hgr ld0 ld1
  simp only [Act.put, stA_, st0_, st1_]
  apply wpR_call 4 (some 21)
  · rfl
  · rfl
  · kernel_rfl
  · rfl
  · intro w'; go_simp; first | done | exact ⟨rfl, rfl⟩ | with_reducible rfl
  intro w' hw'
  refine (HNu.out q w' (HQ6.out.bl hw')).mono ?_
  rintro e w7 ⟨rfl, rfl⟩
  refine ⟨_, rfl, Kept.refl _ _, ?_⟩
  have HR7 := Lib.hid (HR6.out.ext hw')
  have HX7 := Lib.hid (HX6.out.bl hw')
  have HG7 := Lib.hid (grown_ext HG6.out hw')
  clear hw' 
  simp only [Act.put, stA_, st0_, st1_]
  apply wpR_store 5
  · rfl
  · rfl
  · kernel_rfl
  · rfl
  intro w' hw'
  have hxw := HX7.out.bl hw'
  refine ⟨w'.setRow b #[.int .i64 i1, .int .i64 i2], store_row_run 41 (.tmp 2) (.tmp 17) rfl b rfl [.int .i64 i1, .int .i64 i2] rfl 41 [.int .i64 i1, .int .i64 i2] hxw (by kernel_rfl) rfl (by simp [Value.oneCell']), ?_⟩
  rw [show w'.setRow b #[.int .i64 i1, .int .i64 i2] = w' from setRow_self w' b _ 41 (0, 0) hxw]
  refine ⟨Kept.refl _ _, ?_⟩
  have HR8 := Lib.hid (HR7.out.ext hw')
  have HX8 := Lib.hid hxw
  have HG8 := Lib.hid (grown_ext HG7.out hw')
  clear hw' hxw
  try simp only [Act.put, stA_, st0_, st1_]
  refine opR_ 6 3 (v := ?_) ?_ ?_; rotate_left
  · intro w' hw'; go_simp; (try with_reducible rfl)
  simp only [st0_, st1_]
  refine opR_ 7 4 (v := ?_) ?_ ?_; rotate_left
  · intro w' hw'; go_simp; (try with_reducible rfl)
  simp only [st0_, st1_]
  refine wpR_done (by kernel_rfl) ?_ _
  intro w9 hw9
  have HX9 := Lib.hid (HX8.out.bl hw9)
  have HR9 := Lib.hid (HR8.out.ext hw9)
  have HG9 := Lib.hid (grown_ext HG8.out hw9)
  clear hw9
  go_wp2
  exact ret_whole3 rfl b rfl rfl rfl HX9.out Tryz.underlying41 rfl (by kernel_rfl) rfl ⟨rfl, HR9.out, HG9.out⟩
end Go.Proofs.YtmkflebkifbpfaaGreat
/- The reader: dart. -/
namespace Go.Proofs.YtmkflebkifbpfaaGreat
open Go.RowKit
set_option maxRecDepth 100000 in
set_option maxHeartbeats 4000000 in
theorem dart_at (lo g : Nat) (L : List Nat) (B : Option Addr) (m k : Nat) (Es : List EC) (w : World) (h : RdAt lo w g L) (hb : ∀ b ∈ L, b < 256) (he : RdS w w.heap.size 4 B m k (rowsV eC Es)) (hB : ∀ a, B = some a → 0 < m → a.block ≠ g) :
    Calls Tryz.prog 33 #[.pointer (some ⟨g, 0, none⟩), .slice B m k] w fun e w' => e = .returned (.agg #[.int .i64 (rdD Es (c1 L)).1, .int .i64 (rdD Es (c1 L)).2.1, .int .i64 (rdD Es (c1 L)).2.2]) ∧ RdAt lo w' g (L.drop 1) ∧ w.grownBy w' (some g) := by
  have HC := Lib.hid (fun W h => count_at lo g L W h hb)
  have hc := byte_lt hb
  have hl := he.rlen eC_len (by decide)
  obtain ⟨c, gc⟩ : ∃ z, c1 L = z := ⟨_, rfl⟩
  rw [gc] at HC hc ⊢
  obtain ⟨cm, gcm⟩ : ∃ z, c % 128 = z := ⟨_, rfl⟩
  obtain ⟨cq, gcq⟩ : ∃ z, c / 128 = z := ⟨_, rfl⟩
  have m1 : (c : Int) % 128 = (cm : Int) := by omega
  have m2 : (c : Int).tmod 128 = (cm : Int) := by rw [Int.tmod_eq_emod_of_nonneg (by omega)]; exact m1
  have m3 : (c : Int) / 128 = (cq : Int) := by omega
  have m4 : (c : Int).tdiv 128 = (cq : Int) := by rw [Int.tdiv_eq_ediv_of_nonneg (by omega)]; exact m3
  have m5 : IntKind.i64.wrap (cm : Int) = (cm : Int) := IntWalk.i64_in _ (by omega)
  have m6 : IntKind.i64.wrap (cq : Int) = (cq : Int) := IntWalk.i64_in _ (by omega)
  have hd : rdD Es c = match Es[cm]? with | some e => (e.1.1, e.1.2, (cq : Int)) | none => (0, 0, 0) := by unfold rdD; rw [gcm, gcq]; cases Es[cm]? <;> rfl
  obtain ⟨⟨d1, d2, d3⟩, gd⟩ : ∃ z, rdD Es c = z := ⟨_, rfl⟩
  rw [gd] at hd ⊢
  have Hd := Lib.hid hd
  obtain ⟨R, gR⟩ : ∃ z, L.drop 1 = z := ⟨_, rfl⟩
  rw [gR] at HC ⊢
  have HRa := Lib.hid h
  have HE := Lib.hid he
  have HBg := Lib.hid hB
  have Hl := Lib.hid hl
  have HX0 : RowKit.Hid (Whole (w.alloc (.cells #[.int .i64 0, .int .i64 0, .int .i64 0] 49)) w.heap.size 49 [.int .i64 0, .int .i64 0, .int .i64 0]) := Lib.hid (Whole.new_ _ _ [_, _, _])
  have HE0 : RowKit.Hid (Ext w (w.alloc (.cells #[.int .i64 0, .int .i64 0, .int .i64 0] 49))) := Lib.hid (below1 w _)
  clear h hb he hB hl gc gcm gcq hd gd gR
  go_enter Tryz.func33, Tryz.ntmps33
  go_upto_region 1 with fail
  have HR0 := Lib.hid (HRa.out.ext HE0.out)
  have HEa := Lib.hid (HE.out.bl HE0.out)
  obtain ⟨w0, gw0⟩ : ∃ z, w.alloc (.cells #[.int .i64 0, .int .i64 0, .int .i64 0] 49) = z := ⟨_, rfl⟩
  obtain ⟨b, gb⟩ : ∃ z, w.heap.size = z := ⟨_, rfl⟩
  rw [gw0] at HX0 HE0 HR0 HEa ⊢
  rw [gb] at HX0 ⊢
  have Gb := Lib.hid gb
  clear gw0 gb HRa HE
  go_upto_region 2 with (first
    | (go_at_call 31
       refine (HC.out _ HR0.out).mono ?_
       rintro e w1 ⟨rfl, hra, hgr⟩
       have HR1 := Lib.hid hra
       have HX1 : RowKit.Hid (Whole w1 b 49 [.int .i64 0, .int .i64 0, .int .i64 0]) := Lib.hid (by
         obtain ⟨A', n', cc', q2, -⟩ := HR0.out
         exact HX0.out.grown hgr (fun e => HX0.out.ne_ q2 (by decide) (Option.some.inj e)))
       have HG1 : RowKit.Hid (w.grownBy w1 (some g)) := Lib.hid (ext_grow HE0.out hgr)
       have HE1 : RowKit.Hid (RdS w1 w1.heap.size 4 B m k (rowsV eC Es)) := Lib.hid (HEa.out.grown hgr (fun a ha hm e => HBg.out a ha hm (Option.some.inj e)))
       clear hra hgr))
  clear HX0 HE0 HR0 HEa HC
  have f0 := HX1.out.free 0
  have f1 := HX1.out.free 1
  have f2 := HX1.out.free 2
  have z0 := HX1.out.cell (i := 0) rfl
  have z1 := HX1.out.cell (i := 1) rfl
  have z2 := HX1.out.cell (i := 2) rfl
  by_cases hlt : cm < m
  · obtain ⟨e, hx⟩ : ∃ e, Es[cm]? = some e := ⟨_, List.getElem?_eq_getElem (by have := Hl.out; omega)⟩
    obtain ⟨eb, eo, gB, -, -⟩ := HE1.out.place eC_len (by decide) (by omega)
    subst gB
    have l0 := HE1.out.elem eC_len hx 0 _ rfl
    have l1 := HE1.out.elem eC_len hx 1 _ rfl
    simp only [Addr.add_lit, Nat.add_zero] at l0 l1
    obtain ⟨⟨e1, e2⟩, el, et⟩ := e
    have hd := Hd.out
    rw [hx] at hd
    injection hd with a1 a2
    injection a2 with a2 a3
    simp only at a1 a2
    subst a1 a2 a3
    have t1 : decide ((m : Int) ≤ (cm : Int)) = false := decide_eq_false (by omega)
    have t2 : decide (m ≤ cm) = false := decide_eq_false (by omega)
    have t3 : (cm : Int) < (m : Int) := by omega
    clear hx
    go_wp2
    have HXz := ((HX1.out.set_ 0 (.int .i64 d1)).set_ 1 (.int .i64 d2)).set_ 2 (.int .i64 (cq : Int))
    have HRz := ((HR1.out.set (i := 0) HX1.out (by decide) rfl (fun b e => by cases e) (.int .i64 d1)).set (i := 1) (HX1.out.set_ 0 (.int .i64 d1)) (by decide) rfl (fun b e => by cases e) (.int .i64 d2)).set (i := 2) ((HX1.out.set_ 0 (.int .i64 d1)).set_ 1 (.int .i64 d2)) (by decide) rfl (fun b e => by cases e) (.int .i64 (cq : Int))
    have HGz := grown_setnew (grown_setnew (grown_setnew HG1.out (Nat.le_of_eq Gb.out) 0 (.int .i64 d1)) (Nat.le_of_eq Gb.out) 1 (.int .i64 d2)) (Nat.le_of_eq Gb.out) 2 (.int .i64 (cq : Int))
    exact ret_whole rfl b rfl HXz Tryz.underlying49 rfl (by kernel_rfl) rfl ⟨rfl, HRz, HGz⟩
  · have hx : Es[cm]? = none := List.getElem?_eq_none (by have := Hl.out; omega)
    have hd := Hd.out
    rw [hx] at hd
    injection hd with a1 a2
    injection a2 with a2 a3
    subst a1 a2 a3
    have t1 : decide ((m : Int) ≤ (cm : Int)) = true := decide_eq_true (by omega)
    have t2 : decide (m ≤ cm) = true := decide_eq_true (by omega)
    clear hx
    go_wp2
    have HXz := ((HX1.out.set_ 0 (.int .i64 0)).set_ 1 (.int .i64 0)).set_ 2 (.int .i64 0)
    have HRz := ((HR1.out.set (i := 0) HX1.out (by decide) rfl (fun b e => by cases e) (.int .i64 0)).set (i := 1) (HX1.out.set_ 0 (.int .i64 0)) (by decide) rfl (fun b e => by cases e) (.int .i64 0)).set (i := 2) ((HX1.out.set_ 0 (.int .i64 0)).set_ 1 (.int .i64 0)) (by decide) rfl (fun b e => by cases e) (.int .i64 0)
    have HGz := grown_setnew (grown_setnew (grown_setnew HG1.out (Nat.le_of_eq Gb.out) 0 (.int .i64 0)) (Nat.le_of_eq Gb.out) 1 (.int .i64 0)) (Nat.le_of_eq Gb.out) 2 (.int .i64 0)
    exact ret_whole rfl b rfl HXz Tryz.underlying49 rfl (by kernel_rfl) rfl ⟨rfl, HRz, HGz⟩
end Go.Proofs.YtmkflebkifbpfaaGreat
/- pack.read: what it keeps while it goes. -/
namespace Go.Proofs.YtmkflebkifbpfaaGreat
open Go.RowKit
structure Rs (w W : World) (b0 g d : Nat) (cs : List Value) (R : List Nat) : Prop where
  b : Below w.heap.size w W
  x0 : Whole W b0 25 [.slice none 0 0, .slice none 0 0]
  x2 : Whole W d 25 cs
  r : RdAt w.heap.size W g R
  n : b0 ≠ d ∧ w.heap.size ≤ g ∧ w.heap.size ≤ d ∧ w.heap.size ≤ b0
theorem RdAt.whole {lo : Nat} {w : World} {g : Nat} {R : List Nat} (h : RdAt lo w g R) : ∃ cs, Whole w g 62 cs := by
  obtain ⟨A, n, c, h1, -⟩ := h
  exact ⟨_, h1⟩
section
variable {w W W' : World} {b0 g d : Nat} {cs : List Value} {R R' : List Nat}
theorem Rs.bl (h : Rs w W b0 g d cs R) (hb : Ext W W') : Rs w W' b0 g d cs R := ⟨bel_bl h.b hb, h.x0.bl hb, h.x2.bl hb, h.r.ext hb, h.n⟩
theorem Rs.al (h : Rs w W b0 g d cs R) (o : Obj) : Rs w (W.alloc o) b0 g d cs R := h.bl (below1 W o)
theorem Rs.call (h : Rs w W b0 g d cs R) (hr : RdAt w.heap.size W' g R') (hg : W.grownBy W' (some g)) : Rs w W' b0 g d cs R' := by
  obtain ⟨c0, hw⟩ := h.r.whole
  exact ⟨Below.grown h.b hg h.b.size (fun k e => by obtain rfl := Option.some.inj e; exact h.n.2.1), h.x0.grown hg (fun e => h.x0.ne_ hw (by decide) (Option.some.inj e)), h.x2.grown hg (fun e => h.x2.ne_ hw (by decide) (Option.some.inj e)), hr, h.n⟩
theorem Rs.own (h : Rs w W b0 g d cs R) {T : TypeId} {A : Option Addr} {n c k lo : Nat} {xs : List Value} (ho : W.ownsRow lo T k (.slice A n c) n xs) (hlo : w.heap.size ≤ lo) (h1 : 25 ≠ T) (h2 : 62 ≠ T) (hg : W.grownBy W' (Value.slice A n c).ownBlock) : Rs w W' b0 g d cs R := by
  obtain ⟨c0, hw⟩ := h.r.whole
  exact ⟨Below.grown h.b hg h.b.size (fun kk e => Nat.le_trans hlo (ho.lt kk e).1), h.x0.grown hg (own_ne ho h.x0 h1), h.x2.grown hg (own_ne ho h.x2 h1), h.r.grown hg (own_ne ho hw h2) (fun kk e => Nat.le_trans hlo (ho.lt kk e).1), h.n⟩
theorem Rs.setd (h : Rs w W b0 g d cs R) (i : Nat) {v : Value} (hc : cs[i]? = some v) (hv : ∀ b : Nat, v ≠ .int .u8 (b : Int)) (u : Value) : Rs w (W.setCell ⟨d, i, none⟩ u) b0 g d (cs.set i u) R :=
  ⟨h.b.setCell (p := ⟨d, i, none⟩) h.n.2.2.1 u, h.x0.set_far' h.n.1 u, h.x2.set_ i u, h.r.set h.x2 (by decide) hc hv u, h.n⟩
theorem Rs.setx (h : Rs w W b0 g d cs R) {x i : Nat} {t : TypeId} {cx : List Value} (hx : Whole W x t cx) (h1 : t ≠ 25) (h2 : t ≠ 62) (hlo : w.heap.size ≤ x) {v : Value} (hc : cx[i]? = some v) (hv : ∀ b : Nat, v ≠ .int .u8 (b : Int)) (u : Value) : Rs w (W.setCell ⟨x, i, none⟩ u) b0 g d cs R :=
  ⟨h.b.setCell (p := ⟨x, i, none⟩) hlo u, h.x0.set_far' (h.x0.ne_ hx (Ne.symm h1)) u, h.x2.set_far' (h.x2.ne_ hx (Ne.symm h1)) u, h.r.set hx h2 hc hv u, h.n⟩
theorem own_call {T : TypeId} {A : Option Addr} {n c k lo q : Nat} {xs cs : List Value} {T' : TypeId} {r : Option Nat} (ho : W.ownsRow lo T k (.slice A n c) n xs) (hg : W.grownBy W' r) (hne : r ≠ (Value.slice A n c).ownBlock) : W'.ownsRow lo T k (.slice A n c) n xs := ho.kept hg (.inr (Ne.symm hne))
theorem ClS.grow {lo : Nat} {A : Option Addr} {n c : Nat} {Ws : List VC} {B : Option Addr} {m k : Nat} {Es : List EC} {r : Option Nat} (h : ClS W lo A n c Ws B m k Es) (hg : W.grownBy W' r) (hv : (Value.slice A n c).ownBlock = none ∨ (Value.slice A n c).ownBlock ≠ r) (he : (Value.slice B m k).ownBlock = none ∨ (Value.slice B m k).ownBlock ≠ r) (hr : ∀ x ∈ Ws, (Value.slice x.2.1.1 x.2.1.2.1 x.2.1.2.2.1).ownBlock = none ∨ (Value.slice x.2.1.1 x.2.1.2.1 x.2.1.2.2.1).ownBlock ≠ r) : ClS W' lo A n c Ws B m k Es :=
  ⟨h.v.kept hg hv, h.e.kept hg he, fun x hx => (h.r x hx).kept hg (hr x hx)⟩
theorem keep2 {lo lo' k k' n n' : Nat} {T T' : TypeId} {v v' : Value} {xs xs' : List Value} (h : W.ownsRow lo T k v n xs) (h' : W.ownsRow lo' T' k' v' n' xs') (hT : T ≠ T') : v'.ownBlock = none ∨ v'.ownBlock ≠ v.ownBlock := by
  cases hv : v'.ownBlock with
  | none => exact .inl rfl
  | some g => exact .inr fun q => own_two h h' hT q.symm hv
theorem ClS.call {lo : Nat} {A : Option Addr} {n c : Nat} {Ws : List VC} {B : Option Addr} {m k q : Nat} {Es : List EC} {T : TypeId} {cx : List Value} (h : ClS W lo A n c Ws B m k Es) (hg : W.grownBy W' (some q)) (hx : Whole W q T cx) (h1 : T ≠ 47) (h2 : T ≠ 43) (h3 : T ≠ 49) : ClS W' lo A n c Ws B m k Es :=
  h.grow hg (.inr (Ne.symm (own_ne h.v hx h1))) (.inr (Ne.symm (own_ne h.e hx h2))) (fun x hxm => .inr (Ne.symm (own_ne (h.r x hxm) hx h3)))
end
/-- An edge appended onto a row of one's own. -/
theorem appE {w W : World} {A A' : Option Addr} {n c c' : Nat} {X : List EC} {e : EC} (ty : TypeId) (ho : Ow w w.heap.size 43 4 (.slice A n c) n (rowsV eC X) W) (hr : RdS W W.heap.size 4 A' 1 c' (eC e)) (hn : n ≤ 100000) :
    ∃ A2 c2 W', (Builtin.append_ #[23, 23] ty #[.slice A n c, .slice A' 1 c']).run Tryz.prog W = .ok (.slice A2 (n + 1) c2) W' ∧ Ow w w.heap.size 43 4 (.slice A2 (n + 1) c2) (n + 1) (rowsV eC (X ++ [e])) W' ∧ W.grownBy W' (Value.slice A n c).ownBlock := by
  obtain ⟨i0, hi, hz0, hz1, hz2⟩ := info_partsD info_edge
  obtain ⟨v', W', h1, h2, h3, h4, h5⟩ := Ow.app2 (P := Tryz.prog) 23 ty 43 i0 _ 4 40 _ Tryz.underlying23 hi hz0 hz1 hz2 rfl (by decide) _ _ _ ho _ A' 1 c' _ hr (eC_one e) (by unfold maxLen; omega) (by omega)
  have e1 : rowsV eC X ++ eC e = rowsV eC (X ++ [e]) := by rw [rowsV_app]; simp [rowsV]
  rw [e1] at h2
  obtain ⟨A2, c2, rfl, -⟩ := h2.rds
  exact ⟨A2, c2, W', h1, h2, h4⟩
/-- A dart appended onto a row of one's own. -/
theorem appD {W : World} {lo : Nat} {A A' : Option Addr} {n c c' : Nat} {X : List D} {d1 d2 d3 : Int} (ty : TypeId) (hlo : lo ≤ W.heap.size) (ho : W.ownsRow lo 49 3 (.slice A n c) n (dartsV X)) (hr : RdS W W.heap.size 3 A' 1 c' [.int .i64 d1, .int .i64 d2, .int .i64 d3]) (hn : n ≤ 100000) :
    ∃ A2 c2 W', (Builtin.append_ #[45, 45] ty #[.slice A n c, .slice A' 1 c']).run Tryz.prog W = .ok (.slice A2 (n + 1) c2) W' ∧ W'.ownsRow lo 49 3 (.slice A2 (n + 1) c2) (n + 1) (dartsV (X ++ [(d1, d2, d3)])) ∧ W.grownBy W' (Value.slice A n c).ownBlock := by
  obtain ⟨i0, hi, hz0, hz1, hz2⟩ := info_partsD info_dartc
  cases A' with
  | none => have := (hr.none_ rfl).1; omega
  | some a =>
    obtain ⟨v', W2, hrun, hown, hg, hn0, hb⟩ := run_append_own_at (P := Tryz.prog) W lo 45 ty 49 i0 _ 3 24 Tryz.underlying45 hi hz0 hz1 hz2 rfl (by decide) _ n _ ho a 1 c' _ hr.len (hr.cell _ rfl) (by simp [Value.oneCell']) (by unfold maxLen; omega) (by omega) hlo
    have e1 : dartsV X ++ [.int .i64 d1, .int .i64 d2, .int .i64 d3] = dartsV (X ++ [(d1, d2, d3)]) := by rw [dartsV_rows, dartsV_rows, rowsV_app]; rfl
    rw [e1] at hown
    obtain ⟨A2, c2, rfl, -⟩ := RdS.of_own hown
    exact ⟨A2, c2, W2, hrun, hown, hg⟩
theorem nx_get {k t : Nat} (L : List Nat) (h : t < k) : (nx k L)[t]? = some (c1 (L.drop t)) := by
  unfold nx c1
  rw [List.getElem?_take, if_pos h]
  by_cases hl : t < L.length
  · rw [List.getElem?_append_left hl, List.headD_eq_head?_getD, List.head?_drop, List.getElem?_eq_getElem hl]
    rfl
  · rw [List.getElem?_append_right (by omega), List.getElem?_replicate, if_pos (by omega), List.drop_eq_nil_of_le (by omega)]
    rfl
end Go.Proofs.YtmkflebkifbpfaaGreat
/- pack.read. -/
namespace Go.Proofs.YtmkflebkifbpfaaGreat
open Go.RowKit
set_option maxRecDepth 100000 in
set_option maxHeartbeats 4000000 in
theorem read_any (A : Option Addr) (n c : Nat) (L : List Nat) (w : World) (h : RdS w w.heap.size 1 A n c (rowsV f8 L)) (hb : ∀ b ∈ L, b < 256) (hn : n ≤ 100000) :
    Calls Tryz.prog 20 #[.slice A n c] w fun e w' => ∃ A' n' c' B' m' k' Ws, e = .returned (.agg #[.slice A' n' c', .slice B' m' k']) ∧ ClS w' w.heap.size A' n' c' Ws B' m' k' (rdAE L) ∧ Ws.map vS = rdAV L ∧ Below w.heap.size w w' := by
  have HR0 := Lib.hid h
  have hc1 := byte_lt hb
  have hb1 : ∀ b ∈ L.drop 1, b < 256 := fun b q => hb b (List.mem_of_mem_drop q)
  have HCa := Lib.hid (fun W g h => count_at w.heap.size g L W h hb)
  obtain ⟨N1, gN1⟩ : ∃ z, c1 L = z := ⟨_, rfl⟩
  have eE : rdEs N1 (L.drop 1) = rdAE L := by unfold rdAE; rw [gN1]
  obtain ⟨RE, gRE⟩ : ∃ z, rdEr N1 (L.drop 1) = z := ⟨_, rfl⟩
  obtain ⟨Ef, gEf⟩ : ∃ z, rdAE L = z := ⟨_, rfl⟩
  have eV : rdVs Ef (c1 RE) (RE.drop 1) = rdAV L := by unfold rdAV; rw [gN1, gRE, gEf]
  obtain ⟨Vf, gVf⟩ : ∃ z, rdAV L = z := ⟨_, rfl⟩
  rw [gVf] at eV
  rw [gEf] at eE
  rw [gN1] at HCa hc1
  have HeE := Lib.hid eE
  have HeV := Lib.hid eV
  have HgR := Lib.hid gRE
  obtain ⟨R1, gR1⟩ : ∃ z, L.drop 1 = z := ⟨_, rfl⟩
  rw [gR1] at HCa hb1 HeE HgR
  rw [gEf, gVf]
  have Hb1 := Lib.hid hb1
  clear h hb hb1 eE eV gN1 gRE gEf gVf gR1
  go_enter Tryz.func20, Tryz.ntmps20
  go_upto_region 3 with fail
  have hx0 : Whole (((w.alloc (.cells #[.slice none 0 0, .slice none 0 0] 25)).alloc (.cells #[.slice A n c] 62)).alloc (.cells #[.slice none 0 0, .slice none 0 0] 25)) (w.heap.size) 25 [.slice none 0 0, .slice none 0 0] := (((Whole.new_ w 25 [.slice none 0 0, .slice none 0 0]).alloc (.cells #[.slice A n c] 62)).alloc (.cells #[.slice none 0 0, .slice none 0 0] 25))
  have hx1 : Whole (((w.alloc (.cells #[.slice none 0 0, .slice none 0 0] 25)).alloc (.cells #[.slice A n c] 62)).alloc (.cells #[.slice none 0 0, .slice none 0 0] 25)) (w.heap.size + 1) 62 [.slice A n c] := ((Whole.new2 (w := (w.alloc (.cells #[.slice none 0 0, .slice none 0 0] 25))) (by simp)).alloc (.cells #[.slice none 0 0, .slice none 0 0] 25))
  have hx2 : Whole (((w.alloc (.cells #[.slice none 0 0, .slice none 0 0] 25)).alloc (.cells #[.slice A n c] 62)).alloc (.cells #[.slice none 0 0, .slice none 0 0] 25)) (w.heap.size + 1 + 1) 25 [.slice none 0 0, .slice none 0 0] := (Whole.new2 (w := ((w.alloc (.cells #[.slice none 0 0, .slice none 0 0] 25)).alloc (.cells #[.slice A n c] 62))) (by simp))
  have hbl : Below w.heap.size w (((w.alloc (.cells #[.slice none 0 0, .slice none 0 0] 25)).alloc (.cells #[.slice A n c] 62)).alloc (.cells #[.slice none 0 0, .slice none 0 0] 25)) := (bel_al (bel_al (below1 w (.cells #[.slice none 0 0, .slice none 0 0] 25)) (.cells #[.slice A n c] 62)) (.cells #[.slice none 0 0, .slice none 0 0] 25))
  have hsz : w.heap.size + 1 + 1 + 1 ≤ ((((w.alloc (.cells #[.slice none 0 0, .slice none 0 0] 25)).alloc (.cells #[.slice A n c] 62)).alloc (.cells #[.slice none 0 0, .slice none 0 0] 25))).heap.size := by simp
  obtain ⟨W0, gW0⟩ : ∃ z, (((w.alloc (.cells #[.slice none 0 0, .slice none 0 0] 25)).alloc (.cells #[.slice A n c] 62)).alloc (.cells #[.slice none 0 0, .slice none 0 0] 25)) = z := ⟨_, rfl⟩
  rw [gW0] at hx0 hx1 hx2 hbl hsz
  obtain ⟨b2, gb2⟩ : ∃ z, w.heap.size + 1 + 1 = z := ⟨_, rfl⟩
  rw [gb2] at hx2
  obtain ⟨b1, gb1⟩ : ∃ z, w.heap.size + 1 = z := ⟨_, rfl⟩
  rw [gb1] at hx1
  obtain ⟨b0, gb0⟩ : ∃ z, w.heap.size = z := ⟨_, rfl⟩
  rw [gb0] at hx0
  have HX0 := Lib.hid hx0
  have HX1 := Lib.hid hx1
  have HX2 := Lib.hid hx2
  have HB0 := Lib.hid hbl
  have HS0 := Lib.hid hsz
  have Gb0 := Lib.hid gb0
  have Lb0 : RowKit.Hid (w.heap.size ≤ b0) := Lib.hid (by omega)
  have Gb1 := Lib.hid gb1
  have Lb1 : RowKit.Hid (w.heap.size ≤ b1) := Lib.hid (by omega)
  have Gb2 := Lib.hid gb2
  have Lb2 : RowKit.Hid (w.heap.size ≤ b2) := Lib.hid (by omega)
  have N01 : RowKit.Hid (b0 ≠ b1) := Lib.hid (by omega)
  have N02 : RowKit.Hid (b0 ≠ b2) := Lib.hid (by omega)
  have N12 : RowKit.Hid (b1 ≠ b2) := Lib.hid (by omega)
  rw [gW0, gb2, gb1, gb0]
  clear gW0 hbl hsz hx0 hx1 hx2 gb0 gb1 gb2
  have HS : RowKit.Hid (Rs w W0 b0 b1 b2 [.slice none 0 0, .slice none 0 0] L) := Lib.hid ⟨HB0.out, HX0.out, HX2.out, ⟨A, n, c, HX1.out, HR0.out.bl HB0.out, by omega, HR0.out.low⟩, ⟨N02.out, Lb1.out, Lb2.out, Lb0.out⟩⟩
  have HO : RowKit.Hid (Ow w w.heap.size 43 4 (.slice none 0 0) 0 (rowsV eC []) W0) := Lib.hid ⟨World.ownsRow_nil _ _ _ _, HB0.out, Nat.le_refl _, HB0.out.size⟩
  clear HX0 HX1 HX2 HB0 HS0 HR0 N01 N02 N12 Gb0 Gb1 Gb2 Lb0 Lb1 Lb2
  go_wp2_with (first
    | (go_at_call 31
       refine (HCa.out _ _ HS.out.r).mono ?_
       rintro e w1 ⟨rfl, hra, hgr⟩
       have HS1 := Lib.hid (HS.out.call hra hgr)
       have HO1 : RowKit.Hid (Ow w w.heap.size 43 4 (.slice none 0 0) 0 (rowsV eC []) w1) := Lib.hid ⟨World.ownsRow_nil _ _ _ _, (HS.out.call hra hgr).b, Nat.le_refl _, (HS.out.call hra hgr).b.size⟩
       clear hra hgr))
  clear HS HO HCa
  go_loopw [15] (fun si wr => ∃ (i : Nat) (B2 : Option Addr) (k2 : Nat) (Es : List EC) (R : List Nat), i ≤ N1 ∧ si = .int .i64 i ∧ RowKit.Hid (Rs w wr b0 b1 b2 [.slice none 0 0, .slice B2 i k2] R) ∧ RowKit.Hid (Ow w w.heap.size 43 4 (.slice B2 i k2) i (rowsV eC Es) wr) ∧ RowKit.Hid (Es ++ rdEs (N1 - i) R = Ef ∧ rdEr (N1 - i) R = RE ∧ ∀ b ∈ R, b < 256)) (fun si _ => N1 - (intOf si).toNat)
  case atStart => exact ⟨0, none, 0, [], R1, by omega, rfl, HS1, HO1, Lib.hid ⟨HeE.out, HgR.out, Hb1.out⟩⟩
  case round =>
    clear HS1 HO1 HeE HgR Hb1
    obtain ⟨i, B2, k2, Es, R, hi_, rfl, HS, HO, HRl⟩ := hrel
    obtain ⟨wo, gwo⟩ : ∃ z, wr = z := ⟨_, rfl⟩
    rw [gwo] at HS HO ⊢
    clear gwo
    by_cases hin : i < N1
    · obtain ⟨q, gq⟩ : ∃ q, N1 - i = q + 1 := ⟨N1 - i - 1, by omega⟩
      have gq2 : N1 - (i + 1) = q := by omega
      obtain ⟨r1, r2, r3⟩ := HRl.out
      rw [gq] at r1 r2
      have r1' : Es ++ rdE R :: rdEs q (rdH R) = Ef := r1
      have r2' : rdEr q (rdH R) = RE := r2
      have r4 : ∀ b ∈ rdH R, b < 256 := fun b hb => r3 b (by
        unfold rdH rdL2 at hb
        exact List.mem_of_mem_drop (List.mem_of_mem_drop (List.mem_of_mem_drop (List.mem_of_mem_drop hb))))
      have HH := Lib.hid (head_at w.heap.size b1 R wo HS.out.r r3)
      have hE : rdE R = (rdId R, rdTx R, rdAt R) := rfl
      rw [hE] at r1'
      obtain ⟨⟨i1, i2⟩, gid⟩ : ∃ z, rdId R = z := ⟨_, rfl⟩
      obtain ⟨tx, gtx⟩ : ∃ z, rdTx R = z := ⟨_, rfl⟩
      obtain ⟨av, gav⟩ : ∃ z, rdAt R = z := ⟨_, rfl⟩
      obtain ⟨Rn, gRn⟩ : ∃ z, rdH R = z := ⟨_, rfl⟩
      rw [gid, gtx, gav, gRn] at r1' HH
      rw [gRn] at r2' r4
      have HRn : RowKit.Hid ((Es ++ [((i1, i2), tx, av)]) ++ rdEs (N1 - (i + 1)) Rn = Ef ∧ rdEr (N1 - (i + 1)) Rn = RE ∧ ∀ b ∈ Rn, b < 256) := Lib.hid (by
        rw [gq2]
        exact ⟨by rw [List.append_assoc]; exact r1', r2', r4⟩)
      clear r1 r2 r3 r1' r2' r4 hE gid gtx gav gRn gq gq2
      go_upto_region 6 with (first
        | (go_at_call 32
           refine HH.out.mono ?_
           rintro e w2 ⟨rfl, hra, hgr⟩
           have HS2 := Lib.hid ((HS.out.call hra hgr).al (.cells #[.int .i64 i1, .int .i64 i2] 41))
           obtain ⟨c0, hwg⟩ := HS.out.r.whole
           have HO2 : RowKit.Hid (Ow w w.heap.size 43 4 (.slice B2 i k2) i (rowsV eC Es) (w2.alloc (.cells #[.int .i64 i1, .int .i64 i2] 41))) := Lib.hid (Ow.up ⟨own_call (q := 0) (cs := []) (T' := 43) HO.out.own hgr (own_ne HO.out.own hwg (by decide)), (HS.out.call hra hgr).b, Nat.le_refl _, (HS.out.call hra hgr).b.size⟩ (below1 _ _))
           have HI2 : RowKit.Hid (Whole (w2.alloc (.cells #[.int .i64 i1, .int .i64 i2] 41)) w2.heap.size 41 [.int .i64 i1, .int .i64 i2]) := Lib.hid (Whole.new_ _ _ [_, _])
           clear hra hgr hwg))
      clear HH HS HO
      obtain ⟨w3, gw3⟩ : ∃ z, w2.alloc (.cells #[.int .i64 i1, .int .i64 i2] 41) = z := ⟨_, rfl⟩
      obtain ⟨b5, gb5⟩ : ∃ z, w2.heap.size = z := ⟨_, rfl⟩
      rw [gw3] at HS2 HO2 HI2 ⊢
      rw [gb5] at HI2 ⊢
      clear gw3 gb5
      have d1 := HS2.out.x2.cell (i := 1) rfl
      have j0 := HI2.out.cell (i := 0) rfl
      have j1 := HI2.out.cell (i := 1) rfl
      refine wp_region_lit ?_
      refine wl_read (v := ?_) (some 22) rfl (by rfl) ?_ ?_
      rotate_left
      · go_simp; (try with_reducible rfl)
      simp only [Act.put, stA_, st0_, st1_]
      refine wl_read (v := ?_) (some 23) rfl (by rfl) ?_ ?_
      rotate_left
      · go_simp; (try with_reducible rfl)
      simp only [Act.put, stA_, st0_, st1_]
      refine wl_read (v := ?_) (some 24) rfl (by rfl) ?_ ?_
      rotate_left
      · go_simp; (try with_reducible rfl)
      simp only [Act.put, stA_, st0_, st1_]
      refine wl_read (v := ?_) (some 25) rfl (by rfl) ?_ ?_
      rotate_left
      · go_simp; (try with_reducible rfl)
      simp only [Act.put, stA_, st0_, st1_]
      refine wl_read (v := ?_) (some 26) rfl (by rfl) ?_ ?_
      rotate_left
      · go_simp; (try with_reducible rfl)
      simp only [Act.put, stA_, st0_, st1_]
      refine wl_read (v := ?_) (some 27) rfl (by rfl) ?_ ?_
      rotate_left
      · go_simp; (try with_reducible rfl)
      simp only [Act.put, stA_, st0_, st1_]
      clear d1 j0 j1 HI2
      refine wl_buildSlice (some 28) rfl (by rfl) 23 43 1 #[(0, .tmp 27)] (by rfl) Tryz.underlying23 (eC ((i1, i2), tx, av)).toArray (by kernel_rfl) ?_
      simp only [Act.put, stA_, st0_, st1_]
      have HSa := Lib.hid (HS2.out.al (.cells (eC ((i1, i2), tx, av)).toArray 43))
      have HOa := Lib.hid (Ow.up HO2.out (below1 w3 (.cells (eC ((i1, i2), tx, av)).toArray 43)))
      obtain ⟨B3, k3, w4, hrun, ho4, hg4⟩ := appE 23 HOa.out (RdS.of_whole (size := 4) (n := 1) (Whole.new_ w3 43 (eC ((i1, i2), tx, av))) rfl) (by omega)
      refine wl_run (some 29) rfl (by rfl) (exec_append (by rfl) (by rfl) (by rfl) hrun) ?_
      simp only [Act.put, stA_, st0_, st1_]
      have HS4 := Lib.hid (HSa.out.own HOa.out.own (Nat.le_refl _) (by decide) (by decide) hg4)
      have HO4 := Lib.hid ho4
      clear hrun ho4 hg4 HS2 HO2 HSa HOa
      have d1 := HS4.out.x2.cell (i := 1) rfl
      have f1 := HS4.out.x2.free 1
      have HS5 := Lib.hid (HS4.out.setd 1 rfl (fun b e => by cases e) (.slice B3 (i + 1) k3))
      have HO5 : RowKit.Hid (Ow w w.heap.size 43 4 (.slice B3 (i + 1) k3) (i + 1) (rowsV eC (Es ++ [((i1, i2), tx, av)])) (w4.setCell ⟨b2, 1, none⟩ (.slice B3 (i + 1) k3))) := Lib.hid ⟨own_cell_far HO4.out.own (own_ne HO4.out.own HS4.out.x2 (by decide)) _, (HS4.out.setd 1 rfl (fun b e => by cases e) (.slice B3 (i + 1) k3)).b, Nat.le_refl _, (HS4.out.setd 1 rfl (fun b e => by cases e) (.slice B3 (i + 1) k3)).b.size⟩
      clear HS4 HO4 HRl
      go_wp2
      go_roundw
      case rel => exact ⟨i + 1, B3, k3, _, Rn, by omega, by go_num, HS5, HO5, HRn⟩
      case measure => simp [intOf] <;> omega
    · obtain rfl : N1 = i := by omega
      obtain ⟨r1, r2, r3⟩ := HRl.out
      rw [Nat.sub_self] at r1 r2
      have r1' : Es = Ef := by rw [← r1]; exact (List.append_nil _).symm
      have r2' : R = RE := r2
      subst r1' r2'
      have HCb := Lib.hid (count_at w.heap.size b1 R wo HS.out.r r3)
      have hc2 := byte_lt r3
      obtain ⟨N2, gN2⟩ : ∃ z, c1 R = z := ⟨_, rfl⟩
      have HeV2 := HeV
      rw [gN2] at HeV2 HCb hc2
      have Hb2 : RowKit.Hid (∀ b ∈ R.drop 1, b < 256) := Lib.hid (fun b q => r3 b (List.mem_of_mem_drop q))
      obtain ⟨R2, gR2⟩ : ∃ z, R.drop 1 = z := ⟨_, rfl⟩
      rw [gR2] at HeV2 HCb Hb2
      clear gN2 gR2 r1 r2 r3 HRl
      go_wp2_with (first
        | (go_at_call 31
           refine HCb.out.mono ?_
           rintro e w1 ⟨rfl, hra, hgr⟩
           have HS1 := Lib.hid (HS.out.call hra hgr)
           obtain ⟨c0, hwg⟩ := HS.out.r.whole
           have HC1 : RowKit.Hid (ClS w1 w.heap.size none 0 0 [] B2 N1 k2 Es) := Lib.hid ⟨World.ownsRow_nil _ _ _ _, own_call (q := 0) (cs := []) (T' := 43) HO.out.own hgr (own_ne HO.out.own hwg (by decide)), fun x hx => (by cases hx)⟩
           clear hra hgr hwg))
      clear HS HO HCb HeV
      go_loopw [33] (fun si wr => ∃ (j : Nat) (A2 : Option Addr) (c2 : Nat) (Ws : List VC) (R : List Nat), j ≤ N2 ∧ si = .int .i64 j ∧ RowKit.Hid (Rs w wr b0 b1 b2 [.slice A2 j c2, .slice B2 N1 k2] R) ∧ RowKit.Hid (ClS wr w.heap.size A2 j c2 Ws B2 N1 k2 Es) ∧ RowKit.Hid (Ws.map vS ++ rdVs Es (N2 - j) R = Vf ∧ ∀ b ∈ R, b < 256)) (fun si _ => N2 - (intOf si).toNat)
      case atStart => exact ⟨0, none, 0, [], R2, by omega, rfl, HS1, HC1, Lib.hid ⟨HeV2.out, Hb2.out⟩⟩
      case round =>
        clear HS1 HC1 HeV2 Hb2
        obtain ⟨j, A2, c2, Ws, R, hj_, rfl, HS, HC, HRl⟩ := hrel
        obtain ⟨wo, gwo⟩ : ∃ z, wr = z := ⟨_, rfl⟩
        rw [gwo] at HS HC ⊢
        clear gwo
        by_cases hjn : j < N2
        · obtain ⟨q, gq⟩ : ∃ q, N2 - j = q + 1 := ⟨N2 - j - 1, by omega⟩
          have gq2 : N2 - (j + 1) = q := by omega
          obtain ⟨r1, r3⟩ := HRl.out
          rw [gq] at r1
          have r1' : Ws.map vS ++ rdV Es R :: rdVs Es q (rdW R) = Vf := r1
          have r4 : ∀ b ∈ rdH R, b < 256 := fun b hb => r3 b (by
            unfold rdH rdL2 at hb
            exact List.mem_of_mem_drop (List.mem_of_mem_drop (List.mem_of_mem_drop (List.mem_of_mem_drop hb))))
          have r5 : ∀ b ∈ (rdH R).drop 1, b < 256 := fun b hb => r4 b (List.mem_of_mem_drop hb)
          have r6 : ∀ b ∈ rdW R, b < 256 := fun b hb => r5 b (List.mem_of_mem_drop hb)
          have HH := Lib.hid (head_at w.heap.size b1 R wo HS.out.r r3)
          have hE : rdV Es R = (rdId R, (nx (c1 (rdH R)) ((rdH R).drop 1)).map (rdD Es), rdTx R, rdAt R) := rfl
          have hW : rdW R = ((rdH R).drop 1).drop (c1 (rdH R)) := rfl
          rw [hE] at r1'
          obtain ⟨⟨i1, i2⟩, gid⟩ : ∃ z, rdId R = z := ⟨_, rfl⟩
          obtain ⟨tx, gtx⟩ : ∃ z, rdTx R = z := ⟨_, rfl⟩
          obtain ⟨av, gav⟩ : ∃ z, rdAt R = z := ⟨_, rfl⟩
          obtain ⟨Rw, gRw⟩ : ∃ z, rdW R = z := ⟨_, rfl⟩
          obtain ⟨Rn, gRn⟩ : ∃ z, rdH R = z := ⟨_, rfl⟩
          rw [gid, gtx, gav, gRw, gRn] at r1'
          rw [gid, gtx, gav, gRn] at HH
          rw [gRn, gRw] at hW
          rw [gRn] at r4 r5
          rw [gRw] at r6
          have HCc := Lib.hid (fun W h => count_at w.heap.size b1 Rn W h r4)
          have hc3 := byte_lt r4
          obtain ⟨N3, gN3⟩ : ∃ z, c1 Rn = z := ⟨_, rfl⟩
          obtain ⟨R0, gR0⟩ : ∃ z, Rn.drop 1 = z := ⟨_, rfl⟩
          rw [gN3] at r1' HCc hc3 hW
          rw [gR0] at r1' HCc hW r5
          have HW0 : RowKit.Hid (R0.drop N3 = Rw) := Lib.hid hW.symm
          have Hb5 := Lib.hid r5
          have HRn : RowKit.Hid (∀ (A9 : Option Addr) (n9 c9 : Nat) (L9 : List D), L9 = (nx N3 R0).map (rdD Es) → (Ws ++ [((i1, i2), (A9, n9, c9, L9), tx, av)]).map vS ++ rdVs Es (N2 - (j + 1)) Rw = Vf ∧ ∀ b ∈ Rw, b < 256) := Lib.hid (fun A9 n9 c9 L9 h => by
            rw [gq2]
            refine ⟨?_, r6⟩
            rw [List.map_append, List.append_assoc]
            subst h
            exact r1')
          clear r1 r3 r1' r4 r5 r6 hE hW gid gtx gav gRn gRw gN3 gR0 gq gq2 HRl
          go_upto_region 11 with (first
            | (go_at_call 32
               refine HH.out.mono ?_
               rintro e w2 ⟨rfl, hra, hgr⟩
               have HS2 := Lib.hid ((HS.out.call hra hgr).al (.cells #[.int .i64 i1, .int .i64 i2] 41))
               obtain ⟨c0, hwg⟩ := HS.out.r.whole
               have HC2 := Lib.hid ((HC.out.call hgr hwg (by decide) (by decide) (by decide)).al (.cells #[.int .i64 i1, .int .i64 i2] 41))
               have HI2 : RowKit.Hid (Whole (w2.alloc (.cells #[.int .i64 i1, .int .i64 i2] 41)) w2.heap.size 41 [.int .i64 i1, .int .i64 i2]) := Lib.hid (Whole.new_ _ _ [_, _])
               clear hra hgr hwg))
          clear HH HS HC
          obtain ⟨w3, gw3⟩ : ∃ z, w2.alloc (.cells #[.int .i64 i1, .int .i64 i2] 41) = z := ⟨_, rfl⟩
          obtain ⟨b8, gb8⟩ : ∃ z, w2.heap.size = z := ⟨_, rfl⟩
          rw [gw3] at HS2 HC2 HI2 ⊢
          rw [gb8] at HI2 ⊢
          clear gw3 gb8
          have j0 := HI2.out.cell (i := 0) rfl
          have j1 := HI2.out.cell (i := 1) rfl
          go_upto_region 12 with fail
          clear j0 j1 HI2
          have HS3 := Lib.hid (HS2.out.al (.cells #[.int .i64 i1, .int .i64 i2, .slice none 0 0, .string tx, .int .i64 av] 47))
          have HC3 := Lib.hid (HC2.out.al (.cells #[.int .i64 i1, .int .i64 i2, .slice none 0 0, .string tx, .int .i64 av] 47))
          have HV3 : RowKit.Hid (Whole (w3.alloc (.cells #[.int .i64 i1, .int .i64 i2, .slice none 0 0, .string tx, .int .i64 av] 47)) w3.heap.size 47 [.int .i64 i1, .int .i64 i2, .slice none 0 0, .string tx, .int .i64 av]) := Lib.hid (Whole.new_ _ _ [_, _, _, _, _])
          have Hlv : RowKit.Hid (w.heap.size ≤ w3.heap.size) := Lib.hid HS2.out.b.size
          have Hvv : RowKit.Hid (some w3.heap.size ≠ (Value.slice A2 j c2).ownBlock) := Lib.hid (fun e => by have := (HC2.out.v.lt _ e.symm).2; omega)
          obtain ⟨w4, gw4⟩ : ∃ z, w3.alloc (.cells #[.int .i64 i1, .int .i64 i2, .slice none 0 0, .string tx, .int .i64 av] 47) = z := ⟨_, rfl⟩
          obtain ⟨b11, gb11⟩ : ∃ z, w3.heap.size = z := ⟨_, rfl⟩
          rw [gw4] at HS3 HC3 HV3 ⊢
          rw [gb11] at HV3 Hlv Hvv ⊢
          clear gw4 gb11 HS2 HC2
          go_wp2_with (first
            | (go_at_call 31
               refine (HCc.out _ HS3.out.r).mono ?_
               rintro e w5 ⟨rfl, hra, hgr⟩
               have HS5 := Lib.hid (HS3.out.call hra hgr)
               obtain ⟨c0, hwg⟩ := HS3.out.r.whole
               have HC5 := Lib.hid (HC3.out.call hgr hwg (by decide) (by decide) (by decide))
               have HV5 := Lib.hid (HV3.out.grown hgr (fun e => HV3.out.ne_ hwg (by decide) (Option.some.inj e)))
               clear hra hgr hwg))
          clear HS3 HC3 HV3 HCc
          have HOw : RowKit.Hid (w5.ownsRow w5.heap.size 49 3 (.slice none 0 0) 0 (dartsV [])) := Lib.hid (World.ownsRow_nil _ _ _ _)
          have Hlo5 : RowKit.Hid (w.heap.size ≤ w5.heap.size ∧ w5.heap.size ≤ w5.heap.size) := Lib.hid ⟨HS5.out.b.size, Nat.le_refl _⟩
          have Hfar : RowKit.Hid (∀ x ∈ Ws, ∀ kk, (Value.slice x.2.1.1 x.2.1.2.1 x.2.1.2.2.1).ownBlock = some kk → kk < w5.heap.size) := Lib.hid (fun x hx kk e => ((HC5.out.r x hx).lt kk e).2)
          obtain ⟨lo5, glo5⟩ : ∃ z, w5.heap.size = z := ⟨_, rfl⟩
          have Hlo6 : RowKit.Hid (w.heap.size ≤ lo5 ∧ lo5 ≤ w5.heap.size) := Lib.hid (by rw [← glo5]; exact Hlo5.out)
          rw [glo5] at HOw Hfar
          clear glo5 Hlo5
          go_loopw [45] (fun si wr => ∃ (t : Nat) (A3 : Option Addr) (c3 : Nat) (ds : List D), t ≤ N3 ∧ si = .int .i64 t ∧ RowKit.Hid (Rs w wr b0 b1 b2 [.slice A2 j c2, .slice B2 N1 k2] (R0.drop t)) ∧ RowKit.Hid (ClS wr w.heap.size A2 j c2 Ws B2 N1 k2 Es) ∧ RowKit.Hid (Whole wr b11 47 [.int .i64 i1, .int .i64 i2, .slice A3 t c3, .string tx, .int .i64 av]) ∧ RowKit.Hid (wr.ownsRow lo5 49 3 (.slice A3 t c3) t (dartsV ds)) ∧ RowKit.Hid (w.heap.size ≤ lo5 ∧ lo5 ≤ wr.heap.size) ∧ RowKit.Hid (ds = ((nx N3 R0).take t).map (rdD Es))) (fun si _ => N3 - (intOf si).toNat)
          case atStart => exact ⟨0, none, 0, [], by omega, rfl, HS5, HC5, HV5, HOw, Hlo6, Lib.hid rfl⟩
          case round =>
            clear HS5 HC5 HV5 HOw Hlo6
            obtain ⟨t, A3, c3, ds, ht_, rfl, HS, HC, HV, HO, Hlo, Hds⟩ := hrel
            obtain ⟨wi, gwi⟩ : ∃ z, wr = z := ⟨_, rfl⟩
            rw [gwi] at HS HC HV HO Hlo ⊢
            clear gwi
            by_cases htn : t < N3
            · have hnx := nx_get R0 htn
              have hb6 : ∀ b ∈ R0.drop t, b < 256 := fun b hb => Hb5.out b (List.mem_of_mem_drop hb)
              have hds : ds ++ [rdD Es (c1 (R0.drop t))] = ((nx N3 R0).take (t + 1)).map (rdD Es) := by
                rw [List.take_add_one, hnx, List.map_append, Hds.out]
                rfl
              have HDa := Lib.hid (fun W h1 h2 h3 => dart_at w.heap.size b1 (R0.drop t) B2 N1 k2 Es W h1 hb6 h2 h3)
              rw [List.drop_drop] at HDa
              obtain ⟨⟨x1, x2, x3⟩, gx⟩ : ∃ z, rdD Es (c1 (R0.drop t)) = z := ⟨_, rfl⟩
              rw [gx] at HDa hds
              have Hdn := Lib.hid hds
              clear hnx hb6 hds gx Hds
              go_upto_region 14 with fail
              obtain ⟨c0, hwg⟩ := HS.out.r.whole
              have HWg := Lib.hid hwg
              have Hs1 : RowKit.Hid (¬ (b11 = b1 ∨ some b11 = (Value.slice A3 t c3).ownBlock ∨ wi.heap.size ≤ b11)) := Lib.hid (fun e => by
                rcases e with e | e | e
                · exact HV.out.ne_ hwg (by decide) e
                · exact own_ne HO.out HV.out (by decide) e
                · exact absurd HV.out.lt (by omega))
              have Hs2 : RowKit.Hid (¬ (b2 = b1 ∨ some b2 = (Value.slice A3 t c3).ownBlock ∨ wi.heap.size ≤ b2)) := Lib.hid (fun e => by
                rcases e with e | e | e
                · exact HS.out.x2.ne_ hwg (by decide) e
                · exact own_ne HO.out HS.out.x2 (by decide) e
                · exact absurd HS.out.x2.lt (by omega))
              have HDr : RowKit.Hid (Ext wi wi.drew) := Lib.hid (below_drewN wi.heap.size wi 1)
              have ld0 : ∀ w', Kept (fun i => i = b1 ∨ some i = (Value.slice A3 t c3).ownBlock ∨ wi.heap.size ≤ i) wi.drew w' → w'.cell? ⟨b11, 2, none⟩ = some (.slice A3 t c3) := fun w' h => h.cell (HV.out.dr.cell (i := 2) rfl) Hs1.out
              have ld1 : ∀ w', Kept (fun i => i = b1 ∨ some i = (Value.slice A3 t c3).ownBlock ∨ wi.heap.size ≤ i) wi.drew w' → w'.cell? ⟨b2, 1, none⟩ = some (.slice B2 N1 k2) := fun w' h => h.cell (HS.out.x2.dr.cell (i := 1) rfl) Hs2.out
              clear hwg
              refine wp_region_tail (fun i => i = b1 ∨ some i = (Value.slice A3 t c3).ownBlock ∨ wi.heap.size ≤ i) [8] (by kernel_rfl) ?_
              apply wpT_next 0 (some 47) (by kernel_rfl)
              · rfl
              · rfl
              · kernel_rfl
              · kernel_rfl
              · kernel_rfl
              · exact fun _ _ _ _ h => h
              apply Exists.intro
              apply And.intro
              · apply yr_run; rfl; intro w' hw'; go_simp; (try with_reducible rfl)
              simp only [Act.put, stA_, st0_, st1_]
              apply wpT_next 1 (some 48) (by kernel_rfl)
              · rfl
              · rfl
              · kernel_rfl
              · kernel_rfl
              · kernel_rfl
              · exact fun _ _ _ _ h => h
              apply Exists.intro
              apply And.intro
              · apply yr_run; rfl; intro w' hw'; go_simp; (try with_reducible rfl)
              simp only [Act.put, stA_, st0_, st1_]
              apply wpT_next 2 (some 49) (by kernel_rfl)
              · rfl
              · rfl
              · kernel_rfl
              · kernel_rfl
              · kernel_rfl
              · exact fun _ _ _ _ h => h
              apply Exists.intro
              apply And.intro
              · apply yr_run; rfl; intro w' hw'; go_simp; (try with_reducible rfl)
              simp only [Act.put, stA_, st0_, st1_]
              apply wpT_next 3 (some 50) (by kernel_rfl)
              · rfl
              · rfl
              · kernel_rfl
              · kernel_rfl
              · kernel_rfl
              · exact fun _ _ _ _ h => h
              apply Exists.intro
              apply And.intro
              · apply yr_run; rfl; intro w' hw'; go_simp; (try with_reducible rfl)
              simp only [Act.put, stA_, st0_, st1_]
              apply wpT_call 4 (some 51)
              · rfl
              · rfl
              · kernel_rfl
              · rfl
              · intro w'; go_simp; first | done | exact ⟨rfl, rfl⟩ | with_reducible rfl
              intro w' hw'
              have hE := Ext.trans HDr.out hw'
              have hSe := HS.out.bl hE
              have hCe := HC.out.bl hE
              refine (HDa.out w' hSe.r (own_rds hCe.e) (fun a ha hm e => by
                obtain ⟨c9, hw9⟩ := hSe.r.whole
                exact own_ne hCe.e hw9 (by decide) (by subst ha; rw [← e]; rfl))).mono ?_
              rintro e w1 ⟨rfl, hra, hgr⟩
              refine ⟨_, rfl, kept_grow hgr (fun i e => .inl (Option.some.inj e)), ?_⟩
              obtain ⟨c9, hw9⟩ := hSe.r.whole
              have HS1 := Lib.hid (hSe.call hra hgr)
              have HC1 := Lib.hid (hCe.call hgr hw9 (by decide) (by decide) (by decide))
              have HV1 := Lib.hid ((HV.out.bl hE).grown hgr (fun e => (HV.out.bl hE).ne_ hw9 (by decide) (Option.some.inj e)))
              have HO1 := Lib.hid (own_call (q := 0) (cs := []) (T' := 43) (own_up HO.out hE) hgr (own_ne (own_up HO.out hE) hw9 (by decide)))
              have Hlo1 : RowKit.Hid (w.heap.size ≤ lo5 ∧ lo5 ≤ w1.heap.size ∧ wi.heap.size ≤ w1.heap.size) := Lib.hid ⟨Hlo.out.1, Nat.le_trans Hlo.out.2 (Nat.le_trans hE.size hgr.size), Nat.le_trans hE.size hgr.size⟩
              clear hE hSe hCe hra hgr hw9 hw' ld0 ld1 HS HC HV HO Hlo HDa
              simp only [Act.put, stA_, st0_, st1_]
              apply wpT_run 5 (some 52)
              · rfl
              · rfl
              · kernel_rfl
              · rfl
              intro w' hw'
              refine ⟨.slice (some ⟨w'.heap.size, 0, none⟩) 1 1, w'.alloc (.cells #[.int .i64 x1, .int .i64 x2, .int .i64 x3] 49), by (go_simp; first | done | exact rfl | exact ⟨rfl, rfl⟩), Kept.of_below (below1 _ _), ?_⟩
              have hE := Ext.trans hw' (below1 w' (.cells #[.int .i64 x1, .int .i64 x2, .int .i64 x3] 49))
              have HS2 := Lib.hid (HS1.out.bl hE)
              have HC2 := Lib.hid (HC1.out.bl hE)
              have HV2 := Lib.hid (HV1.out.bl hE)
              have HO2 := Lib.hid (own_up HO1.out hE)
              have Hlo2 : RowKit.Hid (w.heap.size ≤ lo5 ∧ lo5 ≤ (w'.alloc (.cells #[.int .i64 x1, .int .i64 x2, .int .i64 x3] 49)).heap.size ∧ wi.heap.size ≤ (w'.alloc (.cells #[.int .i64 x1, .int .i64 x2, .int .i64 x3] 49)).heap.size) := Lib.hid ⟨Hlo1.out.1, Nat.le_trans Hlo1.out.2.1 hE.size, Nat.le_trans Hlo1.out.2.2 hE.size⟩
              have HQ2 : RowKit.Hid (RdS (w'.alloc (.cells #[.int .i64 x1, .int .i64 x2, .int .i64 x3] 49)) (w'.alloc (.cells #[.int .i64 x1, .int .i64 x2, .int .i64 x3] 49)).heap.size 3 (some ⟨w'.heap.size, 0, none⟩) 1 1 [.int .i64 x1, .int .i64 x2, .int .i64 x3]) := Lib.hid (RdS.of_whole (size := 3) (n := 1) (Whole.new_ _ _ [_, _, _]) rfl)
              obtain ⟨wb, gwb⟩ : ∃ z, w'.alloc (.cells #[.int .i64 x1, .int .i64 x2, .int .i64 x3] 49) = z := ⟨_, rfl⟩
              obtain ⟨ab, gab⟩ : ∃ z, w'.heap.size = z := ⟨_, rfl⟩
              rw [gwb] at HS2 HC2 HV2 HO2 Hlo2 HQ2 ⊢
              rw [gab] at HQ2 ⊢
              clear gwb gab hE hw' HS1 HC1 HV1 HO1 Hlo1
              simp only [Act.put, stA_, st0_, st1_]
              apply wpT_run 6 (some 53)
              · rfl
              · rfl
              · kernel_rfl
              · rfl
              intro w' hw'
              have hO := own_up HO2.out hw'
              obtain ⟨A4, c4, w3, hrun, ho3, hg3⟩ := appD 45 (Nat.le_trans Hlo2.out.2.1 hw'.size) hO (HQ2.out.bl hw') (by omega)
              refine ⟨_, w3, exec_append (by rfl) (by rfl) (by rfl) hrun, kept_grow hg3 (fun i e => .inr (.inl e)), ?_⟩
              have hS := HS2.out.bl hw'
              have hC := HC2.out.bl hw'
              have HS3 := Lib.hid (hS.own hO Hlo2.out.1 (by decide) (by decide) hg3)
              have HV3 := Lib.hid ((HV2.out.bl hw').grown hg3 (own_ne hO (HV2.out.bl hw') (by decide)))
              have HC3 := Lib.hid (hC.grow hg3 (keep2 hO hC.v (by decide)) (keep2 hO hC.e (by decide)) (fun x hx => by
                cases hq : (Value.slice x.2.1.1 x.2.1.2.1 x.2.1.2.2.1).ownBlock with
                | none => exact .inl rfl
                | some kk =>
                  refine .inr (fun e => ?_)
                  have h1 := (hO.lt kk e.symm).1
                  have h2 := Hfar.out x hx kk hq
                  omega))
              have HO3 := Lib.hid ho3
              have Hlo3 : RowKit.Hid (w.heap.size ≤ lo5 ∧ lo5 ≤ w3.heap.size) := Lib.hid ⟨Hlo2.out.1, Nat.le_trans (Nat.le_trans Hlo2.out.2.1 hw'.size) hg3.size⟩
              clear hO hrun ho3 hg3 hS hC hw' HS2 HC2 HV2 HO2 HQ2 Hlo2
              simp only [Act.put, stA_, st0_, st1_]
              apply wpT_next 7 (some 54) (by kernel_rfl)
              · rfl
              · rfl
              · kernel_rfl
              · kernel_rfl
              · kernel_rfl
              · exact fun _ _ _ _ h => h
              apply Exists.intro
              apply And.intro
              · apply yr_run; rfl; intro w' hw'; go_simp; (try with_reducible rfl)
              simp only [Act.put, stA_, st0_, st1_]
              apply wpT_last 8
              · rfl
              · rfl
              · kernel_rfl
              · rfl
              · decide
              intro w' hw'
              have hS := HS3.out.bl hw'
              have hV := HV3.out.bl hw'
              have hC := HC3.out.bl hw'
              have hO := own_up HO3.out hw'
              have q2 := hV.cell (i := 2) rfl
              have f2 := hV.free 2
              refine ⟨w'.setCell ⟨b11, 2, none⟩ (.slice A4 (t + 1) c4), by (go_simp; first | done | exact rfl | exact ⟨rfl, rfl⟩), ?_⟩
              have HS8 := Lib.hid (hS.setx hV (i := 2) (by decide) (by decide) Hlv.out rfl (fun b e => by cases e) (.slice A4 (t + 1) c4))
              have HC8 := Lib.hid (hC.far2 (i := 2) hV Hvv.out (.slice A4 (t + 1) c4))
              have HV8 := Lib.hid (hV.set_ 2 (.slice A4 (t + 1) c4))
              have HO8 := Lib.hid (own_cell_far (i := 2) hO (own_ne hO hV (by decide)) (.slice A4 (t + 1) c4))
              have Hlo8 : RowKit.Hid (w.heap.size ≤ lo5 ∧ lo5 ≤ (w'.setCell ⟨b11, 2, none⟩ (.slice A4 (t + 1) c4)).heap.size) := Lib.hid ⟨Hlo3.out.1, by have h1 := Nat.le_trans Hlo3.out.2 hw'.size; simpa using h1⟩
              obtain ⟨w5_, gw5⟩ : ∃ z, w'.setCell ⟨b11, 2, none⟩ (.slice A4 (t + 1) c4) = z := ⟨_, rfl⟩
              rw [gw5] at HS8 HC8 HV8 HO8 Hlo8 ⊢
              clear gw5 hS hV hC hO q2 f2 hw' HS3 HC3 HV3 HO3 Hlo3
              try simp only [Act.put, stA_, st0_, st1_]
              refine wpT_done (by kernel_rfl) ?_ _
              intro w9 hw9
              have HS9 := Lib.hid (HS8.out.bl hw9)
              have HC9 := Lib.hid (HC8.out.bl hw9)
              have HV9 := Lib.hid (HV8.out.bl hw9)
              have HO9 := Lib.hid (own_up HO8.out hw9)
              have Hlo9 : RowKit.Hid (w.heap.size ≤ lo5 ∧ lo5 ≤ w9.heap.size) := Lib.hid ⟨Hlo8.out.1, Nat.le_trans Hlo8.out.2 hw9.size⟩
              clear hw9 HS8 HC8 HV8 HO8 Hlo8
              replace HV9 : RowKit.Hid (Whole w9 b11 47 [.int .i64 i1, .int .i64 i2, .slice A4 (t + 1) c4, .string tx, .int .i64 av]) := HV9
              go_wp2
              go_roundw
              case rel => exact ⟨t + 1, A4, c4, _, by omega, by go_num, HS9, HC9, HV9, HO9, Hlo9, Hdn⟩
              case measure => simp [intOf] <;> omega
            · obtain rfl : N3 = t := by omega
              have hds := Hds.out
              rw [List.take_of_length_le (by rw [nx_len]; omega)] at hds
              have HRz := Lib.hid (HRn.out A3 N3 c3 ds hds)
              rw [HW0.out] at HS
              replace HV : RowKit.Hid (Whole wi b11 47 (vC ((i1, i2), (A3, N3, c3, ds), tx, av))) := HV
              obtain ⟨iV, hiv, hzv0, hzv1, hzv2⟩ := info_partsD info_vertex
              clear hds Hds HRn
              go_upto_region 16 with fail
              have d0 := HS.out.x2.cell (i := 0) rfl
              refine wp_region_lit ?_
              refine wl_read (v := ?_) (some 56) rfl (by rfl) ?_ ?_
              rotate_left
              · go_simp; (try with_reducible rfl)
              simp only [Act.put, stA_, st0_, st1_]
              refine wl_read (v := ?_) (some 57) rfl (by rfl) ?_ ?_
              rotate_left
              · go_simp; (try with_reducible rfl)
              simp only [Act.put, stA_, st0_, st1_]
              refine wl_load (some 58) rfl (by rfl) 47 (.tmp 11) rfl (b11) rfl 47 (vC ((i1, i2), (A3, N3, c3, ds), tx, av)) _ HV.out Tryz.underlying47 rfl (by kernel_rfl) ?_
              simp only [Act.put, stA_, st0_, st1_]
              clear d0
              refine wl_buildSlice (some 59) rfl (by rfl) 22 47 1 #[(0, .tmp 58)] (by rfl) Tryz.underlying22 (vC ((i1, i2), (A3, N3, c3, ds), tx, av)).toArray (by kernel_rfl) ?_
              simp only [Act.put, stA_, st0_, st1_]
              have HOl := Lib.hid (own_lo0 HO.out Hlo.out.1)
              have HSa := Lib.hid (HS.out.al (.cells (vC ((i1, i2), (A3, N3, c3, ds), tx, av)).toArray 47))
              have HCa := Lib.hid (HC.out.al (.cells (vC ((i1, i2), (A3, N3, c3, ds), tx, av)).toArray 47))
              obtain ⟨A6, c6, w6, hrun, hC6, hb6, hg6⟩ := HCa.out.push (P := Tryz.prog) ((i1, i2), (A3, N3, c3, ds), tx, av) (own_up HOl.out (below1 _ _)) 22 22 iV _ Tryz.underlying22 hiv hzv0 hzv1 hzv2 rfl (by omega) (by have := HS.out.b.size; simp; omega) wi.heap.size (RdS.of_whole (Whole.new2 rfl) rfl)
              refine wl_run (some 60) rfl (by rfl) (exec_append (by rfl) (by rfl) (by rfl) hrun) ?_
              simp only [Act.put, stA_, st0_, st1_]
              have HS6 := Lib.hid (HSa.out.own HCa.out.v (Nat.le_refl _) (by decide) (by decide) hg6)
              have HC6 := Lib.hid hC6
              clear hrun hC6 hb6 hg6 HS HC HV HO HOl HSa HCa
              have d0 := HS6.out.x2.cell (i := 0) rfl
              have f0 := HS6.out.x2.free 0
              have HS7 := Lib.hid (HS6.out.setd 0 rfl (fun b e => by cases e) (.slice A6 (j + 1) c6))
              have HC7 := Lib.hid (HC6.out.far (i := 0) HS6.out.x2 (by decide) (by decide) (by decide) (.slice A6 (j + 1) c6))
              clear HS6 HC6
              go_wp2
              go_roundw
              case rel => exact ⟨j + 1, A6, c6, _, Rw, by omega, by go_num, HS7, HC7, HRz⟩
              case measure => simp [intOf] <;> omega
        · obtain rfl : N2 = j := by omega
          obtain ⟨r1, r3⟩ := HRl.out
          rw [Nat.sub_self] at r1
          have r1' : Ws.map vS = Vf := by rw [← r1]; exact (List.append_nil _).symm
          have Hr1 := Lib.hid r1'
          clear r1 r3 r1' HRl
          have d0 := HS.out.x2.cell (i := 0) rfl
          have d1 := HS.out.x2.cell (i := 1) rfl
          have e0 := HS.out.x0.cell (i := 0) rfl
          have e1 := HS.out.x0.cell (i := 1) rfl
          have f0 := HS.out.x0.free 0
          have f1 := HS.out.x0.free 1
          have g0 := HS.out.n
          go_wp2
          have HXz := (HS.out.x0.set_ 0 (.slice A2 N2 c2)).set_ 1 (.slice B2 N1 k2)
          have HBz := (HS.out.b.setCell (p := ⟨b0, 0, none⟩) g0.2.2.2 (.slice A2 N2 c2)).setCell (p := ⟨b0, 1, none⟩) g0.2.2.2 (.slice B2 N1 k2)
          have HCz := (HC.out.far (i := 0) HS.out.x0 (by decide) (by decide) (by decide) (.slice A2 N2 c2)).far (i := 1) (HS.out.x0.set_ 0 (.slice A2 N2 c2)) (by decide) (by decide) (by decide) (.slice B2 N1 k2)
          exact ret_whole rfl b0 rfl HXz Tryz.underlying25 rfl (by kernel_rfl) rfl ⟨A2, N2, c2, B2, N1, k2, Ws, rfl, HCz, Hr1.out, HBz⟩
end Go.Proofs.YtmkflebkifbpfaaGreat
/- One element taken out of a permutation: orbits are as many as they were, but for one that was alone. -/
namespace Go.Proofs.YtmkflebkifbpfaaGreat
open Go.RowKit
section
variable {α : Type} {f f' : α → α} {L L' P : List α}
end
end Go.Proofs.YtmkflebkifbpfaaGreat
/- Edge by edge, in any order. -/
namespace Go.Proofs.YtmkflebkifbpfaaGreat
open Go.RowKit
section
variable {Vs : List VC} {Es Fs : List EC}
end
end Go.Proofs.YtmkflebkifbpfaaGreat
/- The other way round: as many orbits of each length. -/
namespace Go.Proofs.YtmkflebkifbpfaaGreat
open Go.RowKit
section
variable {α : Type} [DecidableEq α] {f f' u : α → α} {L P Q : List α}
end
end Go.Proofs.YtmkflebkifbpfaaGreat
/- A diagram whose vertices and edges are of one's own; its rings turned the other way round, in numbers. -/
namespace Go.Proofs.YtmkflebkifbpfaaGreat
open Go.RowKit
structure Wro (W : World) (lo : Nat) (A : Option Addr) (n c : Nat) (Us : List VC) (B : Option Addr) (m k : Nat) (Es : List EC) : Prop where
  v : W.ownsRow lo 47 5 (.slice A n c) n (rowsV vC Us)
  e : W.ownsRow lo 43 4 (.slice B m k) m (rowsV eC Es)
  r : ∀ x ∈ Us, RgOk W x.2.1
section
variable {W W' : World} {lo : Nat} {A : Option Addr} {n c : Nat} {Us : List VC} {B : Option Addr} {m k : Nat} {Es : List EC}
theorem Wro.dg (h : Wro W lo A n c Us B m k Es) : DgIn W A n c Us B m k Es := ⟨own_rds h.v, own_rds h.e, h.r⟩
theorem Wro.bl (h : Wro W lo A n c Us B m k Es) (hb : Below W.heap.size W W') : Wro W' lo A n c Us B m k Es := ⟨own_up h.v hb, own_up h.e hb, fun x hx => (h.r x hx).bl hb⟩
theorem Wro.al (h : Wro W lo A n c Us B m k Es) (o : Obj) : Wro (W.alloc o) lo A n c Us B m k Es := h.bl (below1 W o)
theorem Wro.dr (h : Wro W lo A n c Us B m k Es) : Wro W.drew lo A n c Us B m k Es := h.bl ((Below.refl _ _).drew)
theorem Wro.put (h : Wro W lo A n c Us B m k Es) {j : Nat} {x : VC} (hx : Us[j]? = some x) (hj : j < n) (R : Rg) (hR : RgOk W R) :
    ∃ g, A = some ⟨g, 0, none⟩ ∧ lo ≤ g ∧ (∃ cs, Whole W g 47 cs) ∧ W.cell? ⟨g, j * 5 + 2, none⟩ = some (.slice x.2.1.1 x.2.1.2.1 x.2.1.2.2.1) ∧ W.frozen? ⟨g, j * 5 + 2, none⟩ = false ∧
      Wro (W.setCell ⟨g, j * 5 + 2, none⟩ (.slice R.1 R.2.1 R.2.2.1)) lo A n c (Us.set j (x.1, R, x.2.2)) B m k Es := by
  obtain ⟨g, junk, e, hlo, hw, hc, hf, ho⟩ := own_poke (i := 2) (y := (x.1, R, x.2.2)) (u := .slice R.1 R.2.1 R.2.2.1) vC_len h.v hx hj (by omega) rfl
  have hc2 : W.cell? ⟨g, j * 5 + 2, none⟩ = some (.slice x.2.1.1 x.2.1.2.1 x.2.1.2.2.1) := hc.trans rfl
  refine ⟨g, e, hlo, ⟨_, hw⟩, hc2, hf, ho, own_cell_far h.e (own_ne h.e hw (by decide)) _, fun y hy => rg_poke ?_ hc2 _⟩
  rcases List.mem_or_eq_of_mem_set hy with hy | rfl
  · exact h.r y hy
  · exact hR
end
end Go.Proofs.YtmkflebkifbpfaaGreat
/- The other way round: the turned diagram, its faces. -/
namespace Go.Proofs.YtmkflebkifbpfaaGreat
open Go.RowKit
theorem nxV_same : ∀ (Us Ws : List VC) (f : D → Option D), Us.map (fun v => v.2.1.2.2.2) = Ws.map (fun v => v.2.1.2.2.2) → nxV Us f = nxV Ws f
  | [], [], _, _ => rfl
  | [], _ :: _, _, h => by cases h
  | _ :: _, [], _, h => by cases h
  | u :: r, v :: s, f, h => by
    rw [List.map_cons, List.map_cons] at h
    injection h with h1 h2
    rw [nxV, nxV, h1]
    exact nxV_same r s _ h2
theorem sigM_same {Us Ws : List VC} (h : Us.map vS = Ws.map vS) : sigM Us = sigM Ws := by
  have h1 := congrArg (List.map (fun s : (Int × Int) × List D × ByteArray × Int => s.2.1)) h
  rw [List.map_map, List.map_map] at h1
  exact nxV_same Us Ws _ h1
theorem phF_same {Us Ws : List VC} (h : Us.map vS = Ws.map vS) : phF Us = phF Ws := by
  funext y
  rw [phF, phF, sgF, sgF, sigM_same h]
section
variable {Vs Us : List VC} {Es : List EC}
end
end Go.Proofs.YtmkflebkifbpfaaGreat
/- An edge more between two vertices, in numbers: it joins their two parts, and no others. -/
namespace Go.Proofs.YtmkflebkifbpfaaGreat
open Go.RowKit
section
variable {Us Vs : List VC} {Es : List EC} {x y : I2}
end
end Go.Proofs.YtmkflebkifbpfaaGreat
/- An edge more, in numbers: rings, next darts, how many faces. -/
namespace Go.Proofs.YtmkflebkifbpfaaGreat
open Go.RowKit
/-- Rings that hold what the other sides of their darts are: no word on edges. -/
structure Rung (Vs : List VC) : Prop where
  nd : (ringsOf Vs).Nodup
  ot : ∀ d ∈ ringsOf Vs, othD d ∈ ringsOf Vs
section
variable {Vs : List VC}
theorem Rung.phi (h : Rung Vs) : Pm (phF Vs) (ringsOf Vs) :=
  ⟨h.nd, fun x hx => (sig_pm h.nd).cl _ (h.ot x hx), fun x hx y hy e => by
    have := (sig_pm h.nd).inj _ (h.ot x hx) _ (h.ot y hy) e
    rw [← oth_oth x, this, oth_oth]⟩
theorem Rung.trG (h : Rung Vs) (x : D) : ∀ (k : Nat) (y : D), y ∈ ringsOf Vs → trG (sigM Vs) x k y = orbT (phF Vs) x k y
  | 0, _, _ => rfl
  | k + 1, y, hy => by
    have hz := h.phi.cl y hy
    rw [Go.Proofs.YtmkflebkifbpfaaGreat.trG, orbT, sigM_eq h.nd, if_pos (h.ot y hy)]
    show y :: (if phF Vs y = x then [] else Go.Proofs.YtmkflebkifbpfaaGreat.trG (sigM Vs) x k (phF Vs y)) = _
    rw [Rung.trG h x k _ hz]
theorem Rung.face (h : Rung Vs) (N : Nat) {x : D} (hx : x ∈ ringsOf Vs) : faceL (sigM Vs) N x = orbT (phF Vs) x N x := by
  rw [faceL, sigM_eq h.nd, if_pos hx, ← h.trG x N x hx]
  rfl
theorem Rung.faces (h : Rung Vs) (N : Nat) : ∀ (l T : List D), (∀ x ∈ l, x ∈ ringsOf Vs) → facesF (sigM Vs) N l T = orbsF (phF Vs) N l T
  | [], _, _ => rfl
  | x :: r, T, hl => by
    have hx := hl x (List.mem_cons_self ..)
    have hr := fun y hy => hl y (List.mem_cons_of_mem _ hy)
    rw [facesF, orbsF, Rung.faces h N r _ hr, Rung.faces h N r _ hr, h.face N hx]
    by_cases q : x ∈ T
    · rw [if_pos q, if_pos q]
    · rw [if_neg q, if_neg q]
end
end Go.Proofs.YtmkflebkifbpfaaGreat
/- The other way round, in numbers: faces, lone vertices, parts, genus are as they were. -/
namespace Go.Proofs.YtmkflebkifbpfaaGreat
open Go.RowKit
theorem alone_vS (Ws : List VC) : aloneN Ws = ((Ws.map vS).filter fun s => decide (s.2.1 = [])).length := by
  rw [List.filter_map, List.length_map]
  rfl
end Go.Proofs.YtmkflebkifbpfaaGreat
/- An edge taken out, in numbers. -/
namespace Go.Proofs.YtmkflebkifbpfaaGreat
open Go.RowKit
section
variable {Vs Us : List VC} {Es : List EC}
end
end Go.Proofs.YtmkflebkifbpfaaGreat
/- An edge more, in numbers: parts, lone vertices, the genus. -/
namespace Go.Proofs.YtmkflebkifbpfaaGreat
open Go.RowKit
theorem ats_vS {Us Ms : List VC} (h : Us.map vS = Ms.map vS) (i : Nat) (y : I2) : Ats Us i y → Ats Ms i y := by
  rintro ⟨u, hu, x, hx, e⟩
  have hi := congrArg (fun L : List ((Int × Int) × List D × ByteArray × Int) => L[i]?) h
  simp only [List.getElem?_map] at hi
  rw [hu] at hi
  cases hv : Ms[i]? with
  | none => rw [hv] at hi; cases hi
  | some v =>
    rw [hv] at hi
    have e1 : vS u = vS v := Option.some.inj hi
    have e2 : u.2.1.2.2.2 = v.2.1.2.2.2 := congrArg (fun s : (Int × Int) × List D × ByteArray × Int => s.2.1) e1
    exact ⟨v, hv, x, e2 ▸ hx, e⟩
section
variable {Vs Us : List VC} {Es : List EC}
end
end Go.Proofs.YtmkflebkifbpfaaGreat
/- An edge taken out: the rest is formed; its genus is no greater, and at most one less. -/
namespace Go.Proofs.YtmkflebkifbpfaaGreat
open Go.RowKit
section
variable {Vs Us : List VC} {Es : List EC}
theorem gen_same (h : Us.map vS = Vs.map vS) : genF Us Es = genF Vs Es := by
  have hl : Us.length = Vs.length := by simpa using congrArg List.length h
  have h1 : facN Us Es = facN Vs Es := by unfold facN; rw [phF_same h]
  have h2 : aloneN Us = aloneN Vs := by rw [alone_vS, h, ← alone_vS]
  have h3 : labF Us = labF Vs := labF_same hl (fun i y => ⟨ats_vS h i y, ats_vS h.symm i y⟩)
  unfold genF
  rw [h1, h2, h3, hl]
end
end Go.Proofs.YtmkflebkifbpfaaGreat
/- pack.Take. -/
namespace Go.Proofs.YtmkflebkifbpfaaGreat
open Go.RowKit
theorem bequal_any (A A' : Option Addr) (n c n' c' : Nat) (P Q : List Nat) (w : World) (h : RdS w w.heap.size 1 A n c (rowsV f8 P)) (h' : RdS w w.heap.size 1 A' n' c' (rowsV f8 Q)) :
    Calls Tryz.prog 21 #[.slice A n c, .slice A' n' c'] w fun e w' => e = .returned (.bool ((txt P).toList == (txt Q).toList)) ∧ w = w' := by
  have hc1 := conv_txt h
  have hc2 := conv_txt h'
  clear h h'
  go_enter Tryz.func21, Tryz.ntmps21
  go_wp2
  go_ret
  exact ⟨rfl, rfl⟩
theorem may7_same {Us Vs : List VC} {Es : List EC} (h : Us.map vS = Vs.map vS) : mayF7 Us Es = mayF7 Vs Es := by
  unfold mayF7
  rw [formD_same h, gen_same h]
/-- Bytes that are a diagram's. -/
def okT (L : List Nat) : Prop := ∃ Ws : List VC, Ws.map vS = rdAV L ∧ mayF7 Ws (rdAE L) = 0 ∧ putD (rdAV L) (rdAE L) = L
theorem okT_iff {L : List Nat} {Ws : List VC} (h : Ws.map vS = rdAV L) : okT L ↔ mayF7 Ws (rdAE L) = 0 ∧ putD (rdAV L) (rdAE L) = L := by
  constructor
  · rintro ⟨Us, h1, h2, h3⟩
    exact ⟨by rw [may7_same (h.trans h1.symm)]; exact h2, h3⟩
  · exact fun q => ⟨Ws, h, q.1, q.2⟩
theorem byte_get {L : List Nat} (h : ∀ b ∈ L, b < 256) (j : Nat) : L.getD j 0 < 256 := by
  rw [List.getD_eq_getElem?_getD]
  cases hq : L[j]? with
  | none => show 0 < 256; omega
  | some b => exact h b (List.mem_of_getElem? hq)
theorem rdId_in {L : List Nat} (h : ∀ b ∈ L, b < 256) : In64 (rdId L).1 ∧ In64 (rdId L).2 := by
  unfold rdId tk4
  have h0 := byte_get (nx_lt h 4) 0
  have h1 := byte_get (nx_lt h 4) 1
  have h2 := byte_get (nx_lt h 4) 2
  have h3 := byte_get (nx_lt h 4) 3
  split
  · unfold nm4 In64
    simp only
    omega
  · exact ⟨by unfold In64; omega, by unfold In64; omega⟩
theorem txt_size (L : List Nat) : (txt L).size = L.length := by
  have h : (txt L).toList.length = L.length := by rw [txt_list, List.length_map]
  rw [ByteArray.toList_eq] at h
  simpa using h
theorem rdTx_size {L : List Nat} (h : ∀ b ∈ L, b < 256) : (rdTx L).size ≤ 1000 := by
  unfold rdTx
  rw [txt_size, nx_len]
  have := byte_lt (L := L.drop 4) (fun b q => h b (List.mem_of_mem_drop q))
  omega
theorem rdH_lt {L : List Nat} (h : ∀ b ∈ L, b < 256) : ∀ b ∈ rdH L, b < 256 := fun b hb => h b (by
  unfold rdH rdL2 at hb
  exact List.mem_of_mem_drop (List.mem_of_mem_drop (List.mem_of_mem_drop (List.mem_of_mem_drop hb))))
theorem rdEs_in : ∀ (k : Nat) {L : List Nat}, (∀ b ∈ L, b < 256) → ∀ e ∈ rdEs k L, In64 e.1.1 ∧ In64 e.1.2 ∧ e.2.1.size ≤ 1000
  | 0, _, _, e, he => by cases he
  | k + 1, L, h, e, he => by
    rcases List.mem_cons.1 he with rfl | he
    · exact ⟨(rdId_in h).1, (rdId_in h).2, rdTx_size h⟩
    · exact rdEs_in k (rdH_lt h) e he
theorem rdEr_lt : ∀ (k : Nat) {L : List Nat}, (∀ b ∈ L, b < 256) → ∀ b ∈ rdEr k L, b < 256
  | 0, _, h => h
  | k + 1, _, h => rdEr_lt k (rdH_lt h)
theorem rdD_in {Es : List EC} (he : ∀ e ∈ Es, In64 e.1.1 ∧ In64 e.1.2) {c : Nat} (hc : c < 256) : In64 (rdD Es c).1 ∧ In64 (rdD Es c).2.1 ∧ In64 (rdD Es c).2.2 := by
  unfold rdD
  cases hq : Es[c % 128]? with
  | none =>
    show In64 0 ∧ In64 0 ∧ In64 0
    unfold In64
    omega
  | some e =>
    obtain ⟨h1, h2⟩ := he e (List.mem_of_getElem? hq)
    exact ⟨h1, h2, by unfold In64; simp only; omega⟩
theorem rdVs_in {Es : List EC} (he : ∀ e ∈ Es, In64 e.1.1 ∧ In64 e.1.2) : ∀ (k : Nat) {L : List Nat}, (∀ b ∈ L, b < 256) → ∀ v ∈ rdVs Es k L, v.2.1.length ≤ 255 ∧ v.2.2.1.size ≤ 1000 ∧ ∀ d ∈ v.2.1, In64 d.1 ∧ In64 d.2.1 ∧ In64 d.2.2
  | 0, _, _, v, hv => by cases hv
  | k + 1, L, h, v, hv => by
    rcases List.mem_cons.1 hv with rfl | hv
    · refine ⟨?_, rdTx_size h, fun d hd => ?_⟩
      · show ((nx (c1 (rdH L)) ((rdH L).drop 1)).map (rdD Es)).length ≤ 255
        rw [List.length_map, nx_len]
        have := byte_lt (rdH_lt h)
        omega
      · obtain ⟨c, hc, rfl⟩ := List.mem_map.1 hd
        exact rdD_in he (nx_lt (fun b q => rdH_lt h b (List.mem_of_mem_drop q)) _ c hc)
    · exact rdVs_in he k (fun b q => rdH_lt h b (by unfold rdW at q; exact List.mem_of_mem_drop (List.mem_of_mem_drop q))) v hv
theorem read_good {L : List Nat} (h : ∀ b ∈ L, b < 256) {Ws : List VC} (hW : Ws.map vS = rdAV L) : GoodD Ws (rdAE L) ∧ ∀ x ∈ Ws, x.2.1.2.2.2.length ≤ 255 := by
  have h1 : ∀ b ∈ L.drop 1, b < 256 := fun b q => h b (List.mem_of_mem_drop q)
  have hE := rdEs_in (c1 L) h1
  have hV := rdVs_in (Es := rdAE L) (fun e q => ⟨(hE e q).1, (hE e q).2.1⟩) (c1 (rdEr (c1 L) (L.drop 1))) (L := (rdEr (c1 L) (L.drop 1)).drop 1) (fun b q => rdEr_lt _ h1 b (List.mem_of_mem_drop q))
  have key : ∀ x ∈ Ws, x.2.1.2.2.2.length ≤ 255 ∧ x.2.2.1.size ≤ 1000 ∧ ∀ d ∈ x.2.1.2.2.2, In64 d.1 ∧ In64 d.2.1 ∧ In64 d.2.2 := fun x hx => by
    have h9 : vS x ∈ rdAV L := hW ▸ List.mem_map.2 ⟨x, hx, rfl⟩
    exact hV (vS x) h9
  have z0 : In64 0 ∧ In64 1 := ⟨by unfold In64; omega, by unfold In64; omega⟩
  refine ⟨⟨fun x hx d hd => ?_, fun e he => ?_, fun x hx => ?_, fun e he => ?_⟩, fun x hx => (key x hx).1⟩
  · have := (key x hx).2.2 d hd
    exact ⟨wf64 this.1, wf64 this.2.1, wf64 this.2.2⟩
  · have := hE e he
    exact ⟨⟨wf64 this.1, wf64 this.2.1, wf64 z0.1⟩, ⟨wf64 this.1, wf64 this.2.1, wf64 z0.2⟩⟩
  · have := (key x hx).2.1
    unfold maxLen
    omega
  · have := (hE e he).2.2
    unfold maxLen
    omega
/-- What Take tells. -/
def GivesT (w : World) (L : List Nat) (e : Ending) (w' : World) : Prop :=
  Below w.heap.size w w' ∧ ((okT L ∧ ∃ A' n' c' B' m' k' Ws, e = .returned (.tuple #[.agg #[.slice A' n' c', .slice B' m' k'], .int .i64 0]) ∧ ClS w' w.heap.size A' n' c' Ws B' m' k' (rdAE L) ∧ Ws.map vS = rdAV L) ∨ (¬ okT L ∧ e = .returned (.tuple #[.agg #[.slice none 0 0, .slice none 0 0], .int .i64 2])))
set_option maxRecDepth 100000 in
set_option maxHeartbeats 4000000 in
theorem take_any (A : Option Addr) (n c : Nat) (L : List Nat) (w : World) (h : RdS w w.heap.size 1 A n c (rowsV f8 L)) (hb : ∀ b ∈ L, b < 256) (hn : n ≤ 100000) :
    Calls Tryz.prog 9 #[.slice A n c] w (GivesT w L) := by
  have HR := Lib.hid h
  have Hb := Lib.hid hb
  have HD := Lib.hid (fun W h => read_any A n c L W h hb hn)
  have HX0 : RowKit.Hid (Whole (w.alloc (.cells #[.slice none 0 0, .slice none 0 0] 25)) w.heap.size 25 [.slice none 0 0, .slice none 0 0]) := Lib.hid (Whole.new_ _ _ [_, _])
  have HE0 : RowKit.Hid (Ext w (w.alloc (.cells #[.slice none 0 0, .slice none 0 0] 25))) := Lib.hid (below1 w _)
  clear h hb
  go_enter Tryz.func9, Tryz.ntmps9
  go_upto_region 1 with fail
  have HR0 := Lib.hid (HR.out.bl HE0.out)
  obtain ⟨w0, gw0⟩ : ∃ z, w.alloc (.cells #[.slice none 0 0, .slice none 0 0] 25) = z := ⟨_, rfl⟩
  obtain ⟨b, gb⟩ : ∃ z, w.heap.size = z := ⟨_, rfl⟩
  rw [gw0] at HX0 HE0 HR0 ⊢
  rw [gb] at HX0 ⊢
  have Gb := Lib.hid gb
  clear gw0 gb HR
  go_upto_region 2 with (first
    | (go_at_call 20
       refine (HD.out _ HR0.out).mono ?_
       rintro e w1 ⟨A1, n1, c1_, B1, m1, k1, Ws, rfl, hc, hWs, hb1⟩
       have hl1 : Ext w1 (w1.alloc (.cells #[.slice A1 n1 c1_, .slice B1 m1 k1] 25)) := below1 w1 _
       have HC1 := Lib.hid ((hc.lo_ HE0.out.size).al (.cells #[.slice A1 n1 c1_, .slice B1 m1 k1] 25))
       have HX1 := Lib.hid ((HX0.out.bl hb1).al (.cells #[.slice A1 n1 c1_, .slice B1 m1 k1] 25))
       have HR1 := Lib.hid ((HR0.out.bl hb1).al (.cells #[.slice A1 n1 c1_, .slice B1 m1 k1] 25))
       have HE1 : RowKit.Hid (Ext w (w1.alloc (.cells #[.slice A1 n1 c1_, .slice B1 m1 k1] 25))) := Lib.hid (Ext.trans (Ext.trans HE0.out hb1) hl1)
       have HY1 : RowKit.Hid (Whole (w1.alloc (.cells #[.slice A1 n1 c1_, .slice B1 m1 k1] 25)) w1.heap.size 25 [.slice A1 n1 c1_, .slice B1 m1 k1]) := Lib.hid (Whole.new_ _ _ [_, _])
       have HWs := Lib.hid hWs
       clear hc hb1 hWs hl1))
  clear HX0 HE0 HR0 HD
  obtain ⟨w2, gw2⟩ : ∃ z, w1.alloc (.cells #[.slice A1 n1 c1_, .slice B1 m1 k1] 25) = z := ⟨_, rfl⟩
  obtain ⟨b4, gb4⟩ : ∃ z, w1.heap.size = z := ⟨_, rfl⟩
  rw [gw2] at HC1 HX1 HR1 HE1 HY1 ⊢
  rw [gb4] at HY1 ⊢
  clear gw2 gb4
  obtain ⟨hgd, hrl⟩ := read_good Hb.out HWs.out
  have hr0 : ∀ x ∈ Ws, x.2.1.2.1 ≤ 1000000 := fun x hx => by
    have h1 := hrl x hx
    have h2 := (HC1.out.wr.dg.r x hx).2.dlen
    omega
  have hok := okT_iff HWs.out
  have d0 := HY1.out.cell (i := 0) rfl
  have d1 := HY1.out.cell (i := 1) rfl
  by_cases hmy : mayF7 Ws (rdAE L) = 0
  · have HPy := Lib.hid (fun W h => put_yes A1 n1 c1_ Ws B1 m1 k1 (rdAE L) W h hgd hr0 hmy)
    rw [HWs.out] at HPy
    have hplt := putD_lt (rdAV L) (rdAE L)
    have htx := txt_eq hplt Hb.out
    have Hok : RowKit.Hid (okT L ↔ putD (rdAV L) (rdAE L) = L) := Lib.hid ⟨fun q => (hok.1 q).2, fun q => hok.2 ⟨hmy, q⟩⟩
    obtain ⟨P, gP⟩ : ∃ z, putD (rdAV L) (rdAE L) = z := ⟨_, rfl⟩
    rw [gP] at HPy htx Hok
    obtain ⟨tb, gtb⟩ : ∃ z, decide (P = L) = z := ⟨_, rfl⟩
    have HQ : RowKit.Hid (∀ (A5 : Option Addr) (c5 : Nat) W, RdS W W.heap.size 1 A5 P.length c5 (rowsV f8 P) → RdS W W.heap.size 1 A n c (rowsV f8 L) → Calls Tryz.prog 21 #[.slice A5 P.length c5, .slice A n c] W fun e w' => e = .returned (.bool tb) ∧ W = w') := Lib.hid (fun A5 c5 W h1 h2 => by
      have h9 := bequal_any A5 A P.length c5 n c P L W h1 h2
      rw [htx, gtb] at h9
      exact h9)
    have Htb := Lib.hid gtb
    clear hgd hrl hr0 hok hplt htx gP gtb hmy
    go_wp2_with (first
      | (go_at_call 6
         refine (HPy.out _ HC1.out.wr.dg).mono ?_
         rintro e w3 ⟨A5, c5, rfl, ho5, hb3⟩
         have HX3 := Lib.hid (HX1.out.bl hb3)
         have HY3 := Lib.hid (HY1.out.bl hb3)
         have HC3 := Lib.hid (HC1.out.bl hb3)
         have HR3 := Lib.hid (HR1.out.bl hb3)
         have HE3 : RowKit.Hid (Ext w w3) := Lib.hid (Ext.trans HE1.out hb3)
         have HO3 := Lib.hid (own_rds ho5)
         clear hb3 d0 d1 ho5)
      | (go_at_call 21
         refine (HQ.out _ _ _ HO3.out HR3.out).mono ?_
         rintro e w4 ⟨rfl, rfl⟩
         have q0 := HX3.out.cell (i := 0) rfl
         have q1 := HX3.out.cell (i := 1) rfl
         have f0 := HX3.out.free 0
         have f1 := HX3.out.free 1
         have d0 := HY3.out.cell (i := 0) rfl
         have d1 := HY3.out.cell (i := 1) rfl
         cases tb))
    · have HXz := (HX3.out.set_ 0 (.slice none 0 0)).set_ 1 (.slice none 0 0)
      have HBz := ((show Below w.heap.size w w3 from HE3.out).setCell (p := ⟨b, 0, none⟩) (by show w.heap.size ≤ b; exact Nat.le_of_eq Gb.out) (.slice none 0 0)).setCell (p := ⟨b, 1, none⟩) (by show w.heap.size ≤ b; exact Nat.le_of_eq Gb.out) (.slice none 0 0)
      exact ret_whole2 rfl b rfl rfl HXz Tryz.underlying25 rfl (by kernel_rfl) rfl ⟨HBz, .inr ⟨fun q => of_decide_eq_false Htb.out (Hok.out.1 q), rfl⟩⟩
    · have HXz := (HX3.out.set_ 0 (.slice A1 n1 c1_)).set_ 1 (.slice B1 m1 k1)
      have HBz := ((show Below w.heap.size w w3 from HE3.out).setCell (p := ⟨b, 0, none⟩) (by show w.heap.size ≤ b; exact Nat.le_of_eq Gb.out) (.slice A1 n1 c1_)).setCell (p := ⟨b, 1, none⟩) (by show w.heap.size ≤ b; exact Nat.le_of_eq Gb.out) (.slice B1 m1 k1)
      have HCz := (HC3.out.far (i := 0) HX3.out (by decide) (by decide) (by decide) (.slice A1 n1 c1_)).far (i := 1) (HX3.out.set_ 0 (.slice A1 n1 c1_)) (by decide) (by decide) (by decide) (.slice B1 m1 k1)
      exact ret_whole2 rfl b rfl rfl HXz Tryz.underlying25 rfl (by kernel_rfl) rfl ⟨HBz, .inl ⟨Hok.out.2 (of_decide_eq_true Htb.out), A1, n1, c1_, B1, m1, k1, Ws, rfl, HCz, HWs.out⟩⟩
  · have HPn := Lib.hid (fun W h => put_not A1 n1 c1_ Ws B1 m1 k1 (rdAE L) W h hgd hr0 hmy)
    have Hno : RowKit.Hid (¬ okT L) := Lib.hid (fun q => hmy (hok.1 q).1)
    obtain ⟨my, gmy⟩ : ∃ z, mayF7 Ws (rdAE L) = z := ⟨_, rfl⟩
    rw [gmy] at HPn hmy
    have hne : (my != 0) = true := by simp [hmy]
    clear gmy hgd hrl hr0 hok
    go_wp2_with (first
      | (go_at_call 6
         refine (HPn.out _ HC1.out.wr.dg).mono ?_
         rintro e w3 ⟨rfl, hb3⟩
         have HX3 := Lib.hid (HX1.out.bl hb3)
         have HE3 : RowKit.Hid (Ext w w3) := Lib.hid (Ext.trans HE1.out hb3)
         have q0 := HX3.out.cell (i := 0) rfl
         have q1 := HX3.out.cell (i := 1) rfl
         have f0 := HX3.out.free 0
         have f1 := HX3.out.free 1
         clear hb3 d0 d1))
    have HXz := (HX3.out.set_ 0 (.slice none 0 0)).set_ 1 (.slice none 0 0)
    have HBz := ((show Below w.heap.size w w3 from HE3.out).setCell (p := ⟨b, 0, none⟩) (by show w.heap.size ≤ b; exact Nat.le_of_eq Gb.out) (.slice none 0 0)).setCell (p := ⟨b, 1, none⟩) (by show w.heap.size ≤ b; exact Nat.le_of_eq Gb.out) (.slice none 0 0)
    exact ret_whole2 rfl b rfl rfl HXz Tryz.underlying25 rfl (by kernel_rfl) rfl ⟨HBz, .inr ⟨Hno.out, rfl⟩⟩
end Go.Proofs.YtmkflebkifbpfaaGreat
/- When the document's reader of a head goes on, in numbers. -/
namespace Go.Proofs.YtmkflebkifbpfaaGreat
open Go.RowKit
def idT (L : List Nat) : Bool := decide (4 ≤ L.length ∧ mayI (nm4 L).1 (nm4 L).2 = true)
def thT (L : List Nat) : Bool := idT L && (isT (L.drop 4) && decide (8 ≤ (leT (L.drop 4)).length))
theorem nx_take {n : Nat} {K : List Nat} (h : n ≤ K.length) : nx n K = K.take n := by
  unfold nx
  rw [List.take_append_of_le_length h]
theorem idT_ok {L : List Nat} (h : idT L = true) : rdId L = nm4 L := by
  obtain ⟨h1, h2⟩ := of_decide_eq_true h
  unfold rdId
  rw [nx_take h1]
  have e : nm4 (L.take 4) = nm4 L := by
    match L, h1 with
    | a :: b :: c :: d :: K, _ => rfl
  unfold tk4
  rw [e, if_pos h2]
theorem thT_ok {L : List Nat} (h : thT L = true) : rdId L = nm4 L ∧ rdTx L = txT (L.drop 4) ∧ rdAt L = num8 ((leT (L.drop 4)).take 8) ∧ rdH L = (leT (L.drop 4)).drop 8 := by
  unfold thT at h
  rw [Bool.and_eq_true, Bool.and_eq_true] at h
  obtain ⟨h1, h2, h3⟩ := h
  have h4 := of_decide_eq_true h2
  have h5 := of_decide_eq_true h3
  have e2 : rdL2 L = leT (L.drop 4) := by
    unfold rdL2 leT
    rw [if_pos h2, List.drop_drop]
  refine ⟨idT_ok h1, ?_, ?_, ?_⟩
  · unfold rdTx txT
    rw [if_pos h2, nx_take (by rw [List.length_drop]; omega)]
  · unfold rdAt
    rw [e2, nx_take h5]
  · unfold rdH
    rw [e2]
theorem thT_head {x : Int × Int} {s : ByteArray} {a : Int} {R : List Nat} (h : okH x s a) : thT (headB x s a ++ R) = true := by
  obtain ⟨q1, q2⟩ := rd_c1 (x := x) (s := s) (a := a) (R := R) h
  have hn : nm4 (headB x s a ++ R) = x := by
    have e1 : nm4 (headB x s a ++ R) = nm4 (idB x) := rfl
    have e2 := tk4_idB h.1
    unfold tk4 at e2
    rw [e1]
    by_cases hm : mayI (nm4 (idB x)).1 (nm4 (idB x)).2 = true
    · rw [if_pos hm] at e2
      exact e2
    · rw [if_neg hm] at e2
      have h1 := h.1
      rw [← e2] at h1
      exact absurd h1 (by decide)
  have hl : (headB x s a ++ R).length = 13 + s.size + R.length := by rw [List.length_append, headB_len]
  obtain ⟨M, gM⟩ : ∃ z, (headB x s a ++ R).drop 4 = z := ⟨_, rfl⟩
  have hM : M.length = 9 + s.size + R.length := by rw [← gM, List.length_drop, hl]; omega
  rw [gM] at q1 q2
  have hT : isT M = true := decide_eq_true ⟨by omega, by omega⟩
  unfold thT
  rw [Bool.and_eq_true, Bool.and_eq_true, gM]
  refine ⟨decide_eq_true ⟨by omega, by rw [hn]; exact h.1⟩, hT, decide_eq_true ?_⟩
  unfold leT
  rw [if_pos hT, List.length_drop]
  omega
/-- What bytes that are a diagram's are. -/
theorem okT_is {L : List Nat} (h : okT L) : ∃ Ws : List VC, Ws.map vS = rdAV L ∧ mayF7 Ws (rdAE L) = 0 ∧ Formed Ws (rdAE L) ∧ L = ((rdAE L).length % 256) :: restE (rdAE L) (rdAV L) 0 := by
  obtain ⟨Ws, h1, h2, h3⟩ := h
  exact ⟨Ws, h1, h2, may7_formed h2, h3.symm⟩
end Go.Proofs.YtmkflebkifbpfaaGreat
/- The document's TakeNum and TakeText: what is left lies where the bytes lay. -/
namespace Go.Proofs.YtmkflebkifbpfaaGreat
open Go.RowKit
/-- Where A' lies, A lies. -/
def Lies (A A' : Option Addr) : Prop := ∀ a', A' = some a' → ∃ a, A = some a ∧ a.block = a'.block
theorem lies_low {A A1 : Option Addr} {c j s : Nat} (h : (if c = j then A else A.map (·.add (j * s))) = A1) : Lies A A1 := fun a' e => by
  subst e
  split at h
  · exact ⟨a', h, rfl⟩
  · cases A with
    | none => cases h
    | some a =>
      refine ⟨a, rfl, ?_⟩
      have := Option.some.inj h
      rw [← this]
      show a.block = (a.add (j * s)).block
      unfold Addr.add
      first | rfl | (split <;> rfl)
theorem Lies.trans {A A' A'' : Option Addr} (h : Lies A A') (k : Lies A' A'') : Lies A A'' := fun a e => by
  obtain ⟨b, hb, e1⟩ := k a e
  obtain ⟨c, hc, e2⟩ := h b hb
  exact ⟨c, hc, e2.trans e1⟩
def GivesRN2 (w : World) (A0 : Option Addr) (L : List Nat) (e : Ending) (w' : World) : Prop :=
  ∃ A n c, e = .returned (.tuple #[.int .i64 (if 8 ≤ L.length then num8 (L.take 8) else 0), .slice A n c, .bool (decide (8 ≤ L.length))]) ∧ n = (if 8 ≤ L.length then L.drop 8 else L).length ∧ RdS w' w'.heap.size 1 A n c (rowsV f8 (if 8 ≤ L.length then L.drop 8 else L)) ∧ Lies A0 A ∧ Below w.heap.size w w'
def GivesRT2 (w : World) (A0 : Option Addr) (L : List Nat) (e : Ending) (w' : World) : Prop :=
  ∃ A n c, e = .returned (.tuple #[.string (txT L), .slice A n c, .bool (isT L)]) ∧ n = (leT L).length ∧ RdS w' w'.heap.size 1 A n c (rowsV f8 (leT L)) ∧ Lies A0 A ∧ Below w.heap.size w w'
set_option maxRecDepth 100000 in
set_option maxHeartbeats 4000000 in
theorem rtakenum_blk (A : Option Addr) (n c : Nat) (L : List Nat) (w : World) (h : RdS w w.heap.size 1 A n c (rowsV f8 L)) (hn : n ≤ 100000) (hb : ∀ b ∈ L, b < 256) :
    Calls Tryz.prog 36 #[.slice A n c] w (GivesRN2 w A L) := by
  have hl := h.rlen f8_len (by decide)
  unfold GivesRN2
  rw [hl]
  by_cases h8 : 8 ≤ n
  · rw [if_pos h8, if_pos h8, decide_eq_true h8]
    have hlow := h.low_ (k := 8) h8
    have hdl : (L.drop 8).length = n - 8 := by rw [List.length_drop, hl]
    rw [show (rowsV f8 L).drop (8 * 1) = rowsV f8 (L.drop 8) from by rw [rowsV_map8, rowsV_map8, List.map_drop], ← hdl] at hlow
    obtain ⟨A1, hA1⟩ : ∃ A1, (if c = 8 then A else A.map (·.add (8 * 1))) = A1 := ⟨_, rfl⟩
    rw [hA1] at hlow
    have HLow := Lib.hid hlow
    obtain ⟨M, gM⟩ : ∃ M, L.drop 8 = M := ⟨_, rfl⟩
    rw [gM] at HLow hdl ⊢
    obtain ⟨m, gm⟩ : ∃ m, M.length = m := ⟨_, rfl⟩
    rw [gm] at HLow hdl ⊢
    obtain ⟨bb, off, rfl, -, hp⟩ := byte_at h (by omega)
    have Hp := Lib.hid hp
    have Hb := Lib.hid hb
    have Hl := Lib.hid hl
    have Hlt := Lib.hid (fun k hk => deN_lt hb k hk)
    have HAr := Lib.hid hA1
    have Hml := Lib.hid hdl.symm
    obtain ⟨x, gx⟩ : ∃ x, num8 (L.take 8) = x := ⟨_, rfl⟩
    have Gx := Lib.hid gx
    rw [gx]
    have hd1 : decide ((n : Int) < 8) = false := decide_eq_false (by omega)
    have hd2 : decide (n < 8) = false := decide_eq_false (by omega)
    have H8 := Lib.hid h8
    clear h hb hlow gM gm hA1 hdl hp gx hl
    go_enter Tryz.func36, Tryz.ntmps36
    go_upto_region 4 with fail
    clear hd1 hd2
    go_wp2
    go_loop [5, 6] (fun u i => ∃ k : Nat, k ≤ 8 ∧ u = .int .u64 ((deN (L.take k) : Nat) : Int) ∧ i = .int .i64 (k : Int)) (fun _ i => 8 - (intOf i).toNat)
    case atStart => exact ⟨0, by omega, by simp [deN], by simp⟩
    case round =>
      obtain ⟨k, hk, rfl, rfl⟩ := hrel
      by_cases hlt : k < 8
      · obtain ⟨b, hbk⟩ : ∃ b, L[k]? = some b := ⟨_, List.getElem?_eq_getElem (by have := Hl.out; omega)⟩
        have l0 := Hp.out k b hbk
        have hb6 : b < 256 := Hb.out b (List.mem_of_getElem? hbk)
        have hd : deN (L.take (k + 1)) = deN (L.take k) * 256 + b := by rw [take_snoc_ L k b hbk, deN_snoc]
        have hdl : deN (L.take k) < 72057594037927936 := by
          have h1 := Hlt.out k (by have := Hl.out; omega)
          have h2 : 256 ^ k ≤ 256 ^ 7 := Nat.pow_le_pow_right (by omega) (by omega)
          omega
        obtain ⟨X, gX⟩ : ∃ X, deN (L.take k) = X := ⟨_, rfl⟩
        rw [gX] at hd hdl ⊢
        have Hd := Lib.hid hd
        obtain ⟨hw1, hw3⟩ := u64_step X b hdl hb6
        obtain ⟨X2, gX2⟩ : ∃ z, 256 * X = z := ⟨_, rfl⟩
        rw [gX2] at hw1 hw3
        obtain ⟨X3, gX3⟩ : ∃ z, X * 256 + b = z := ⟨_, rfl⟩
        rw [gX3] at hw3
        have Hd2 : RowKit.Hid (deN (L.take (k + 1)) = X3) := Lib.hid (by rw [hd, gX3])
        have hw2 : IntKind.u64.wrap (b : Int) = (b : Int) := by rw [IntKind.wrap_u64]; omega
        have hk8 : (k : Int) < 8 := by omega
        have hkn : (k : Int) < (n : Int) := by have := H8.out; omega
        clear gX hd hbk gX2 gX3 hdl
        go_wp2
        refine ⟨⟨k + 1, by omega, ?_, by go_num⟩, by simp [intOf]; omega⟩
        rw [Hd2.out]
      · obtain rfl : k = 8 := by omega
        have hwx : IntKind.i64.wrap ((deN (L.take 8) : Nat) : Int) = x := Gx.out
        obtain ⟨X, gX⟩ : ∃ X, deN (L.take 8) = X := ⟨_, rfl⟩
        rw [gX] at hwx ⊢
        clear gX
        go_upto_region 8 with fail
        refine wp_region_reg (Nil_) (by kernel_rfl) ?_
        refine opR_ 0 23 (v := ?_) ?_ ?_; rotate_left
        · intro w' hw'; go_simp; (try with_reducible rfl)
        simp only [st0_, st1_]
        refine opR_ 1 24 (v := ?_) ?_ ?_; rotate_left
        · intro w' hw'; go_simp; (try with_reducible rfl)
        simp only [st0_, st1_]
        refine opR_ 2 25 (v := ?_) ?_ ?_; rotate_left
        · intro w' hw'; go_simp; (try with_reducible rfl)
        simp only [st0_, st1_]
        refine opX_ 3 26 ?_
        apply Exists.intro
        apply And.intro
        · apply yr_run; rfl; intro w' hw'; exact exec_slice_low_as 27 5 (.tmp 25) (.const (.int .i64 8)) rfl Tryz.underlying27 (s := 1) (by kernel_rfl) rfl rfl H8.out HAr.out Hml.out rfl
        simp only [st0_, st1_]
        refine opR_ 4 2 (v := ?_) ?_ ?_; rotate_left
        · intro w' hw'; go_simp; (try with_reducible rfl)
        simp only [st0_, st1_]
        refine opR_ 5 3 (v := ?_) ?_ ?_; rotate_left
        · intro w' hw'; go_simp; (try with_reducible rfl)
        simp only [st0_, st1_]
        refine opR_ 6 4 (v := ?_) ?_ ?_; rotate_left
        · intro w' hw'; go_simp; (try with_reducible rfl)
        simp only [st0_, st1_]
        refine wpR_done (by kernel_rfl) ?_ _
        intro w9 hw9
        have HD9 : RowKit.Hid (Ext w w9) := Lib.hid (Ext.trans (below_drewN w.heap.size w 1) hw9)
        clear hw9
        go_wp2
        refine bodyPost_ret (v := .tuple #[.int .i64 x, .slice A1 m (c - 8), .bool true]) (by simp [results, Tryz.results36, go_sem]) rfl ?_
        exact ⟨A1, m, c - 8, rfl, rfl, HLow.out.bl HD9.out, lies_low HAr.out, HD9.out⟩
  · rw [if_neg h8, if_neg h8, decide_eq_false h8]
    have HR := Lib.hid h
    have Hl := Lib.hid hl
    have hd1 : decide ((n : Int) < 8) = true := decide_eq_true (by omega)
    have hd2 : decide (n < 8) = true := decide_eq_true (by omega)
    clear h hb hn hl
    go_enter Tryz.func36, Tryz.ntmps36
    go_wp2
    exact bodyPost_ret (v := .tuple #[.int .i64 0, .slice A n c, .bool false]) (by simp [results, Tryz.results36, go_sem]) rfl ⟨A, n, c, rfl, Hl.out.symm, HR.out, fun a' e => ⟨a', e, rfl⟩, Below.refl _ _⟩
set_option maxRecDepth 100000 in
set_option maxHeartbeats 1000000 in
theorem rtaketext_blk (A : Option Addr) (c : Nat) (L : List Nat) (w : World) (h : RdS w w.heap.size 1 A L.length c (rowsV f8 L)) (hn : L.length ≤ 100000) (hb : ∀ b ∈ L, b < 256) :
    Calls Tryz.prog 35 #[.slice A L.length c] w (GivesRT2 w A L) := by
  unfold GivesRT2
  by_cases hT : isT L = true
  · obtain ⟨h1, h2⟩ := of_decide_eq_true hT
    obtain ⟨b, hb0⟩ : ∃ b, L[0]? = some b := ⟨_, List.getElem?_eq_getElem (by omega)⟩
    have hc1 : c1 L = b := by unfold c1; cases L with | nil => cases hb0 | cons x L => simpa using hb0
    have hb6 : b < 256 := hb b (List.mem_of_getElem? hb0)
    unfold txT leT
    rw [if_pos hT, if_pos hT, hT]
    rw [hc1] at h2 ⊢
    have hlow := h.low_ (k := 1 + b) h2
    have hdl : (L.drop (1 + b)).length = L.length - (1 + b) := List.length_drop
    rw [show (rowsV f8 L).drop ((1 + b) * 1) = rowsV f8 (L.drop (1 + b)) from by rw [rowsV_map8, rowsV_map8, List.map_drop, Nat.mul_one], ← hdl] at hlow
    obtain ⟨A1, hA1⟩ : ∃ A1, (if c = 1 + b then A else A.map (·.add ((1 + b) * 1))) = A1 := ⟨_, rfl⟩
    rw [hA1] at hlow
    have HLow := Lib.hid hlow
    -- the text
    have hmid := h.low_ (k := 1) h1
    rw [show (rowsV f8 L).drop (1 * 1) = rowsV f8 (L.drop 1) from by rw [rowsV_map8, rowsV_map8, List.map_drop]] at hmid
    obtain ⟨A3, hA3⟩ : ∃ A3, (if c = 1 then A else A.map (·.add (1 * 1))) = A3 := ⟨_, rfl⟩
    rw [hA3] at hmid
    have htk := hmid.take_ b (by omega)
    rw [show (rowsV f8 (L.drop 1)).take (b * 1) = rowsV f8 ((L.drop 1).take b) from by rw [rowsV_map8, rowsV_map8, List.map_take, Nat.mul_one]] at htk
    have HV := Lib.hid (fun W (hW : Ext w W) => conv_txt (htk.up hW hW.size))
    obtain ⟨s, gs⟩ : ∃ s, txt ((L.drop 1).take b) = s := ⟨_, rfl⟩
    rw [gs] at HV ⊢
    obtain ⟨M, gM⟩ : ∃ M, L.drop (1 + b) = M := ⟨_, rfl⟩
    rw [gM] at HLow hdl ⊢
    obtain ⟨bb, off, rfl, -, hp⟩ := byte_at h (by omega)
    have l0 := hp 0 b hb0
    rw [Nat.add_zero] at l0
    obtain ⟨n, gn⟩ : ∃ n, L.length = n := ⟨_, rfl⟩
    have hle := h.le
    rw [gn] at hdl h1 h2 hn hle ⊢
    obtain ⟨m, gm⟩ : ∃ m, M.length = m := ⟨_, rfl⟩
    have Gm := Lib.hid gm
    rw [gm] at HLow hdl ⊢
    have hw1 : IntKind.i64.wrap (1 + (b : Int)) = ((1 + b : Nat) : Int) := by rw [IntWalk.i64_in _ (by omega)]; omega
    have hw2 : IntKind.i64.wrap (b : Int) = (b : Int) := IntWalk.i64_in _ (by omega)
    obtain ⟨e, ge⟩ : ∃ e, 1 + b = e := ⟨_, rfl⟩
    rw [ge] at hw1 hA1 hdl HLow h2
    have heb : RowKit.Hid (e - 1 = b) := Lib.hid (by omega)
    have He1 : RowKit.Hid (1 ≤ e ∧ e ≤ c ∧ e ≤ n) := Lib.hid (by omega)
    have d1 : decide (n ≤ b) = false := decide_eq_false (by omega)
    have d2 : decide ((n : Int) ≤ (b : Int)) = false := decide_eq_false (by omega)
    have d3 : ((n : Int) == 0) = false := beq_eq_false_iff_ne.2 (by omega)
    have d4 : (n == 0) = false := beq_eq_false_iff_ne.2 (by omega)
    have d5 : (0 : Int) < (n : Int) := by omega
    have HAr := Lib.hid hA1
    have HAs := Lib.hid hA3
    have Hml := Lib.hid hdl.symm
    clear h hb hlow hmid htk gs gM gn gm ge hA1 hA3 hdl hb0 hc1 hp hT hle
    go_enter Tryz.func35, Tryz.ntmps35
    go_upto_region 4 with fail
    have HD : RowKit.Hid (Ext w w.drew) := Lib.hid (below_drewN w.heap.size w 1)
    refine wp_region_reg (Nil_) (by kernel_rfl) ?_
    refine opR_ 0 25 (v := ?_) ?_ ?_; rotate_left
    · intro w' hw'; go_simp; (try with_reducible rfl)
    simp only [st0_, st1_]
    refine opR_ 1 26 (v := ?_) ?_ ?_; rotate_left
    · intro w' hw'; go_simp; (try with_reducible rfl)
    simp only [st0_, st1_]
    refine opX_ 2 27 ?_
    apply Exists.intro
    apply And.intro
    · apply yr_run; rfl; intro w' hw'; exact exec_slice_as 27 5 (.tmp 25) (.const (.int .i64 1)) (.tmp 26) rfl Tryz.underlying27 (s := 1) (by kernel_rfl) rfl rfl rfl He1.out.1 He1.out.2.1 HAs.out heb.out rfl
    simp only [st0_, st1_]
    refine opX_ 3 28 ?_
    apply Exists.intro
    apply And.intro
    · apply yr_run; rfl; intro w' hw'; exact exec_convert 27 9 (.tmp 27) rfl rfl (HV.out w' (HD.out.trans hw'.ext_nil))
    simp only [st0_, st1_]
    refine opR_ 4 29 (v := ?_) ?_ ?_; rotate_left
    · intro w' hw'; go_simp; (try with_reducible rfl)
    simp only [st0_, st1_]
    refine opR_ 5 30 (v := ?_) ?_ ?_; rotate_left
    · intro w' hw'; go_simp; (try with_reducible rfl)
    simp only [st0_, st1_]
    refine opX_ 6 31 ?_
    apply Exists.intro
    apply And.intro
    · apply yr_run; rfl; intro w' hw'; exact exec_slice_low_as 27 5 (.tmp 29) (.tmp 30) rfl Tryz.underlying27 (s := 1) (by kernel_rfl) rfl rfl He1.out.2.2 HAr.out Hml.out rfl
    simp only [st0_, st1_]
    refine opR_ 7 2 (v := ?_) ?_ ?_; rotate_left
    · intro w' hw'; go_simp; (try with_reducible rfl)
    simp only [st0_, st1_]
    refine opR_ 8 3 (v := ?_) ?_ ?_; rotate_left
    · intro w' hw'; go_simp; (try with_reducible rfl)
    simp only [st0_, st1_]
    refine opR_ 9 4 (v := ?_) ?_ ?_; rotate_left
    · intro w' hw'; go_simp; (try with_reducible rfl)
    simp only [st0_, st1_]
    refine wpR_done (by kernel_rfl) ?_ _
    intro w9 hw9
    have HD9 : RowKit.Hid (Ext w w9) := Lib.hid (Ext.trans HD.out hw9)
    clear hw9
    go_wp2
    refine bodyPost_ret (v := .tuple #[.string s, .slice A1 m (c - e), .bool true]) (by simp [results, Tryz.results35, go_sem]) rfl ?_
    exact ⟨A1, m, c - e, rfl, rfl, HLow.out.bl HD9.out, lies_low HAr.out, HD9.out⟩
  · have hf : isT L = false := by simpa using hT
    unfold txT leT
    rw [if_neg hT, if_neg hT, hf]
    have HR := Lib.hid h
    by_cases h1 : 1 ≤ L.length
    · obtain ⟨b, hb0⟩ : ∃ b, L[0]? = some b := ⟨_, List.getElem?_eq_getElem (by omega)⟩
      have hc1 : c1 L = b := by unfold c1; cases L with | nil => cases hb0 | cons x L => simpa using hb0
      have hb6 : b < 256 := hb b (List.mem_of_getElem? hb0)
      have hlt : ¬ (1 + b ≤ L.length) := fun q => by rw [← hc1] at q; exact hT (decide_eq_true ⟨h1, q⟩)
      obtain ⟨bb, off, rfl, -, hp⟩ := byte_at h (by omega)
      have l0 := hp 0 b hb0
      rw [Nat.add_zero] at l0
      obtain ⟨n, gn⟩ : ∃ n, L.length = n := ⟨_, rfl⟩
      have Gn := Lib.hid gn
      have hle := h.le
      rw [gn] at hlt h1 HR hle ⊢
      have hw2 : IntKind.i64.wrap (b : Int) = (b : Int) := IntWalk.i64_in _ (by omega)
      have d1 : decide (n ≤ b) = true := decide_eq_true (by omega)
      have d2 : decide ((n : Int) ≤ (b : Int)) = true := decide_eq_true (by omega)
      obtain ⟨e, ge⟩ : ∃ z, 1 + b = z := ⟨_, rfl⟩
      have hw1 : IntKind.i64.wrap (1 + (b : Int)) = (e : Int) := by rw [IntWalk.i64_in _ (by omega)]; omega
      have d6 : decide ((n : Int) < (e : Int)) = true := decide_eq_true (by omega)
      have d7 : decide (n < e) = true := decide_eq_true (by omega)
      have d8 : decide ((n : Int) < 1) = false := decide_eq_false (by omega)
      have d9 : decide (n < 1) = false := decide_eq_false (by omega)
      have da : n < e := by omega
      clear d1 d2 ge
      have d3 : ((n : Int) == 0) = false := beq_eq_false_iff_ne.2 (by omega)
      have d4 : (n == 0) = false := beq_eq_false_iff_ne.2 (by omega)
      have d5 : (0 : Int) < (n : Int) := by omega
      clear h hb gn hn hb0 hc1 hp hT hlt hf
      go_enter Tryz.func35, Tryz.ntmps35
      go_wp2
      refine bodyPost_ret (v := .tuple #[.string { data := #[] }, .slice (some ⟨bb, off, none⟩) n c, .bool false]) (by simp [results, Tryz.results35, go_sem, Gn.out]) rfl ?_
      exact ⟨_, n, c, rfl, rfl, HR.out, fun a' e => ⟨a', e, rfl⟩, Below.refl _ _⟩
    · obtain ⟨n, gn⟩ : ∃ n, L.length = n := ⟨_, rfl⟩
      have Gn := Lib.hid gn
      rw [gn] at h1 HR ⊢
      obtain rfl : n = 0 := by omega
      clear h hb gn hn hT hf
      go_enter Tryz.func35, Tryz.ntmps35
      go_wp2
      refine bodyPost_ret (v := .tuple #[.string { data := #[] }, .slice A 0 c, .bool false]) (by simp [results, Tryz.results35, go_sem, Gn.out]) rfl ?_
      exact ⟨A, 0, c, rfl, rfl, HR.out, fun a' e => ⟨a', e, rfl⟩, Below.refl _ _⟩
end Go.Proofs.YtmkflebkifbpfaaGreat
