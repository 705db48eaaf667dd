/- Several texts in one. -/
import Derived.Test.YtmkflebkifbpfaaGreatZEA
import Derived.Test.YtmkflebkifbpfaaGreatZEB
/- find, Vertex, Edge. -/
set_option linter.unusedSimpArgs false
set_option linter.unusedVariables false
namespace Go.Proofs.YtmkflebkifbpfaaGreat
open Go.RowKit
def fnd {α : Type} (nm : α → Int × Int) (z : α) (L : List α) (x : Int × Int) : α × Bool := match L.find? (fun v => decide (nm v = x)) with | some v => (v, true) | none => (z, false)
theorem fnd_yes {α : Type} (nm : α → Int × Int) (z v : α) (r : List α) (x : Int × Int) (h : nm v = x) : fnd nm z (v :: r) x = (v, true) := by simp [fnd, h]
theorem fnd_no {α : Type} (nm : α → Int × Int) (z v : α) (r : List α) (x : Int × Int) (h : ¬ nm v = x) : fnd nm z (v :: r) x = fnd nm z r x := by simp [fnd, h]
def zV : VC := ((0, 0), (none, 0, 0, []), ⟨#[]⟩, 0)
def zE : EC := ((0, 0), ⟨#[]⟩, 0)
def fndV (L : List VC) (x : Int × Int) := fnd (fun v : VC => v.1) zV L x
def fndE (L : List EC) (x : Int × Int) := fnd (fun v : EC => v.1) zE L x
theorem fnd_mem {α : Type} (nm : α → Int × Int) (z : α) (L : List α) (x : Int × Int) : (fnd nm z L x).1 ∈ L ∨ fnd nm z L x = (z, false) := by
  unfold fnd
  split
  · rename_i v h; exact .inl (List.mem_of_find?_eq_some h)
  · exact .inr rfl
end Go.Proofs.YtmkflebkifbpfaaGreat
/- Vertex, Same of the program. -/
namespace Go.Proofs.YtmkflebkifbpfaaGreat
open Go.RowKit
theorem fndV_ring {w : World} {A B : Option Addr} {n c m k : Nat} {Vs : List VC} {Es : List EC} (h : DgIn w A n c Vs B m k Es) (hr : ∀ x ∈ Vs, x.2.1.2.1 ≤ 1000000) (x : Int × Int) :
    RgOk w (fndV Vs x).1.2.1 ∧ (fndV Vs x).1.2.1.2.1 ≤ 1000000 := by
  rcases fnd_mem (fun v : VC => v.1) zV Vs x with hm | he
  · exact ⟨h.r _ hm, hr _ hm⟩
  · have e : fndV Vs x = (zV, false) := he
    rw [e]
    exact ⟨⟨Nat.zero_le _, RdS.no _ _ _⟩, by decide⟩
/-- What a vertex is, wherever its ring lies. -/
def vS (v : VC) : (Int × Int) × List D × ByteArray × Int := (v.1, v.2.1.2.2.2, v.2.2.1, v.2.2.2)
theorem bytes_inj {t t' : ByteArray} (h : t.toList = t'.toList) : t = t' := by
  rw [ByteArray.toList_eq, ByteArray.toList_eq] at h
  exact ByteArray.ext (Array.toList_inj.1 h)
theorem bytes_iff (s t : ByteArray) : s.toList = t.toList ↔ s = t := ⟨bytes_inj, fun h => by rw [h]⟩
theorem bytes_beq (s t : ByteArray) : (s.toList == t.toList) = decide (s = t) := by
  rw [Bool.eq_iff_iff]
  simp [bytes_iff]
theorem edge_ne (a b : EC) (W : World) : (binOp .neq 43 (.agg (eC a).toArray) (.agg (eC b).toArray)).run Tryz.prog W = .ok (.bool (!decide (a = b))) W := by
  obtain ⟨⟨a1, a2⟩, a3, a4⟩ := a
  obtain ⟨⟨b1, b2⟩, b3, b4⟩ := b
  by_cases h1 : a1 = b1 <;> by_cases h2 : a2 = b2 <;> by_cases h3 : a3 = b3 <;> by_cases h4 : a4 = b4 <;> simp [go_sem, eC, bytes_iff, h1, h2, h3, h4]
theorem cells_at {w W : World} {bb o : Nat} {cs : List Value} (hb : Below w.heap.size w W) (hB : bb < w.heap.size) (h : ∀ j v, cs[j]? = some v → w.cell? (Addr.add ⟨bb, o, none⟩ j) = some v) :
    ∀ w', Kept Nil_ W w' → ∀ j v, cs[j]? = some v → w'.cell? (Addr.add ⟨bb, o, none⟩ j) = some v := fun w' hk j v hv => hk.nil_cell ((hb.cell (by rw [add_block]; exact hB)).trans (h j v hv))
end Go.Proofs.YtmkflebkifbpfaaGreat
/- The document's own Index, Turn, Next, Prev of rings. -/
namespace Go.Proofs.YtmkflebkifbpfaaGreat
open Go.RowKit
set_option maxHeartbeats 400000 in
theorem rfindex_any (A : Option Addr) (n c : Nat) (L : List D) (d : D) (w : World) (h : RdS w w.heap.size 3 A n c (dartsV L)) (hn : n ≤ 9223372036854775807) :
    Calls Tryz.prog 82 #[.slice A n c, .agg #[.int .i64 d.1, .int .i64 d.2.1, .int .i64 d.2.2]] w fun e w' => e = .returned (.int .i64 (idxD L d)) ∧ Below w.heap.size w w' := by
  have hl := h.dlen
  have HL := Lib.hid hl
  have H := Lib.hid h
  have HS : RowKit.Hid (IdxAt w L d 0 (w.alloc (.cells #[.int .i64 d.1, .int .i64 d.2.1, .int .i64 d.2.2] 49))) := ⟨fun j hj => absurd hj (by omega), Whole.new_ w _ [.int .i64 d.1, .int .i64 d.2.1, .int .i64 d.2.2], below1 _ _⟩
  clear h hl
  go_enter Tryz.func82, Tryz.ntmps82
  go_wp2
  go_loopw [5] (fun i wr => ∃ k : Nat, k ≤ n ∧ i = .int .i64 k ∧ IdxAt w L d k wr) (fun i _ => n - (intOf i).toNat)
  case atStart => exact ⟨0, Nat.zero_le _, rfl, HS.out⟩
  case round =>
    obtain ⟨k, hk, rfl, h1, h2, h3⟩ := hrel
    have H1 := Lib.hid h1
    have H2 := Lib.hid h2
    have H3 := Lib.hid h3
    clear h1 HS
    by_cases hlt : k < n
    · obtain ⟨b, off, rfl, hb, hc⟩ := H.out.darts (by omega)
      obtain ⟨c1, c2, c3⟩ := hc k (by rw [HL.out]; exact hlt)
      have d1 := (h3.cell (p := ⟨b, off + k * 3, none⟩) hb).trans c1
      have d2 := (h3.cell (p := ⟨b, off + k * 3 + 1, none⟩) hb).trans c2
      have d3 := (h3.cell (p := ⟨b, off + k * 3 + 2, none⟩) hb).trans c3
      have b1 := h2.cell (i := 0) rfl
      have b2 := h2.cell (i := 1) rfl
      have b3 := h2.cell (i := 2) rfl
      obtain ⟨x, gx⟩ : ∃ v, L.getD k (0, 0, 0) = v := ⟨_, rfl⟩
      rw [gx] at d1 d2 d3
      have GX := Lib.hid gx
      have hq := eq_dart_run x d
      clear h2 h3 hc c1 c2 c3 gx
      by_cases hd : x = d
      · have hd' : decide (x = d) = true := by simpa using hd
        rw [hd'] at hq
        have HD := Lib.hid hd
        clear hd hd'
        go_wp2
        go_quiet (fail)
        go_wp2
        go_ret
        exact ⟨ret_int (by rw [idxD_at (by rw [HL.out]; exact hlt) (GX.out.trans HD.out) H1.out]), ⟨H3.out.os, H3.out.tape, H3.out.output, H3.out.size, H3.out.block⟩⟩
      · have hd' : decide (x = d) = false := by simpa using hd
        rw [hd'] at hq
        have HD := Lib.hid hd
        clear hd hd'
        go_wp2
        go_quiet (fail)
        go_wp2
        go_roundw
        case rel =>
          refine ⟨k + 1, by omega, by go_num, fun j hj => ?_, H2.out, ⟨H3.out.os, H3.out.tape, H3.out.output, H3.out.size, H3.out.block⟩⟩
          rcases Nat.lt_or_ge j k with h | h
          · exact H1.out j h
          · obtain rfl : j = k := by omega
            rw [GX.out]
            exact HD.out
        case measure => simp [intOf]; omega
    · clear h2 h3
      go_wp2
      go_ret
      refine ⟨ret_int ?_, H3.out⟩
      rw [idxD_not]
      intro j hj
      exact H1.out j (by have := HL.out; omega)
theorem turnD_get (L : List D) (i : Nat) (h : i < L.length) : (turnD L).getD i (0, 0, 0) = L.getD ((leastI L L.length + i) % L.length) (0, 0, 0) := by
  have hm : leastI L L.length < L.length := leastI_lt L _ (by omega)
  unfold turnD
  generalize leastI L L.length = m at *
  simp only [List.getD_eq_getElem?_getD]
  congr 1
  rcases Nat.lt_or_ge (m + i) L.length with h1 | h1
  · rw [List.getElem?_append_left (by simp; omega), List.getElem?_drop, Nat.mod_eq_of_lt h1]
  · rw [List.getElem?_append_right (by simp; omega), List.getElem?_take, List.length_drop, if_pos (by omega)]
    congr 1
    rw [Nat.mod_eq_sub_mod h1, Nat.mod_eq_of_lt (by omega)]
    omega
theorem take_snocD (L : List D) (k : Nat) (h : k < L.length) : L.take (k + 1) = L.take k ++ [L.getD k (0, 0, 0)] := by
  rw [List.take_succ_eq_append_getElem h]
  simp [h]
set_option maxRecDepth 100000 in
set_option maxHeartbeats 1000000 in
theorem rfturn_any (A : Option Addr) (n c : Nat) (L : List D) (w : World) (h : RdS w w.heap.size 3 A n c (dartsV L)) (hn : n ≤ 5864062014634) :
    Calls Tryz.prog 61 #[.slice A n c] w (GivesR w (turnD L)) := by
  obtain ⟨i0, hi, hz0, hz1, hz2⟩ := info_parts info_dart
  have HR := Lib.hid h
  have hl := h.dlen
  subst hl
  clear h
  go_enter Tryz.func61, Tryz.ntmps61
  go_wp2
  go_loopw [3, 4] (fun lv i wr => ∃ k : Nat, k ≤ L.length ∧ i = .int .i64 k ∧ lv = .int .i64 (leastI L k : Int) ∧ Below w.heap.size w wr) (fun _ i _ => L.length - (intOf i).toNat)
  case atStart => exact ⟨0, Nat.zero_le _, rfl, rfl, Below.refl _ _⟩
  case round =>
    obtain ⟨k2, hk2, rfl, rfl, hbw⟩ := hrel
    have HBw := Lib.hid hbw
    by_cases hlt2 : k2 < L.length
    · obtain ⟨b, off, rfl, hb, hc⟩ := (HR.out.up hbw hbw.size).darts (by omega)
      obtain ⟨d1, d2, d3⟩ := hc k2 hlt2
      have hlm := leastI_le L k2
      have hlm2 : leastI L k2 < L.length := by omega
      obtain ⟨e1, e2, e3⟩ := hc (leastI L k2) hlm2
      have hs : leastI L (k2 + 1) = if ordT (L.getD k2 (0, 0, 0)) (L.getD (leastI L k2) (0, 0, 0)) < 0 then k2 else leastI L k2 := rfl
      obtain ⟨m, gm⟩ : ∃ v, leastI L k2 = v := ⟨_, rfl⟩
      rw [gm] at e1 e2 e3 hlm hlm2 hs ⊢
      obtain ⟨x, gx⟩ : ∃ v, L.getD k2 (0, 0, 0) = v := ⟨_, rfl⟩
      obtain ⟨y, gy⟩ : ∃ v, L.getD m (0, 0, 0) = v := ⟨_, rfl⟩
      rw [gx] at d1 d2 d3 hs
      rw [gy] at e1 e2 e3 hs
      have HOr := rorderdart_any x.1 x.2.1 x.2.2 y.1 y.2.1 y.2.2
      have ho : ordD x.1 x.2.1 x.2.2 y.1 y.2.1 y.2.2 = ordT x y := rfl
      obtain ⟨ov, gov⟩ : ∃ v, ordT x y = v := ⟨_, rfl⟩
      rw [ho, gov] at HOr
      rw [gov] at hs
      have HOr' := Lib.hid HOr
      have HS := Lib.hid hs
      clear hc gm gx gy ho gov HOr hs
      go_upto_region 5 with fail
      have g0 : ∀ w', Kept Nil_ wr.drew w' → w'.cell? ⟨b, off + k2 * 3, none⟩ = some (.int .i64 x.1) := fun w' h => h.nil_cell d1
      have g1 : ∀ w', Kept Nil_ wr.drew w' → w'.cell? ⟨b, off + k2 * 3 + 1, none⟩ = some (.int .i64 x.2.1) := fun w' h => h.nil_cell d2
      have g2 : ∀ w', Kept Nil_ wr.drew w' → w'.cell? ⟨b, off + k2 * 3 + 2, none⟩ = some (.int .i64 x.2.2) := fun w' h => h.nil_cell d3
      have g3 : ∀ w', Kept Nil_ wr.drew w' → w'.cell? ⟨b, off + m * 3, none⟩ = some (.int .i64 y.1) := fun w' h => h.nil_cell e1
      have g4 : ∀ w', Kept Nil_ wr.drew w' → w'.cell? ⟨b, off + m * 3 + 1, none⟩ = some (.int .i64 y.2.1) := fun w' h => h.nil_cell e2
      have g5 : ∀ w', Kept Nil_ wr.drew w' → w'.cell? ⟨b, off + m * 3 + 2, none⟩ = some (.int .i64 y.2.2) := fun w' h => h.nil_cell e3
      have hE : RowKit.Hid (Below w.heap.size w wr.drew) := HBw.out.drew
      clear hbw
      by_cases ho : ov < 0
      · rw [if_pos ho] at HS
        refine wp_region_reg (Nil_) (by kernel_rfl) ?_
        refine opR_ 0 13 (v := ?_) ?_ ?_; rotate_left
        · intro w' hw'; go_simp; (try with_reducible rfl)
        simp only [st0_, st1_]
        refine opR_ 1 14 (v := ?_) ?_ ?_; rotate_left
        · intro w' hw'; go_simp; (try with_reducible rfl)
        simp only [st0_, st1_]
        refine opR_ 2 15 (v := ?_) ?_ ?_; rotate_left
        · intro w' hw'; go_simp; (try with_reducible rfl)
        simp only [st0_, st1_]
        refine opR_ 3 16 (v := ?_) ?_ ?_; rotate_left
        · intro w' hw'; go_simp; (try with_reducible rfl)
        simp only [st0_, st1_]
        refine opR_ 4 17 (v := ?_) ?_ ?_; rotate_left
        · intro w' hw'; go_simp; (try with_reducible rfl)
        simp only [st0_, st1_]
        refine opR_ 5 18 (v := ?_) ?_ ?_; rotate_left
        · intro w' hw'; go_simp; (try with_reducible rfl)
        simp only [st0_, st1_]
        refine opR_ 6 19 (v := ?_) ?_ ?_; rotate_left
        · intro w' hw'; go_simp; (try with_reducible rfl)
        simp only [st0_, st1_]
        refine opR_ 7 20 (v := ?_) ?_ ?_; rotate_left
        · intro w' hw'; go_simp; (try with_reducible rfl)
        simp only [st0_, st1_]
        refine opX_ 8 21 ?_
        apply Exists.intro
        apply And.intro
        · apply yr_call; rfl; rotate_left; intro w' hw'; exact HOr'.out w'; intro w'; go_simp
        simp only [st0_, st1_]
        refine opR_ 9 22 (v := ?_) ?_ ?_; rotate_left
        · intro w' hw'; go_simp; (try with_reducible rfl)
        simp only [st0_, st1_]
        refine wpR_done (by kernel_rfl) ?_ _
        intro w' hw'
        have hE2 : RowKit.Hid (Below w.heap.size w w') := hE.out.trans (hw'.mono hE.out.size)
        clear g0 g1 g2 g3 g4 g5 hw' d1 d2 d3 e1 e2 e3
        go_wp2
        go_roundw
        case rel => exact ⟨k2 + 1, by omega, by go_num, by rw [HS.out], hE2.out⟩
        case measure => simp [intOf]; omega
      · rw [if_neg ho] at HS
        refine wp_region_reg (Nil_) (by kernel_rfl) ?_
        refine opR_ 0 13 (v := ?_) ?_ ?_; rotate_left
        · intro w' hw'; go_simp; (try with_reducible rfl)
        simp only [st0_, st1_]
        refine opR_ 1 14 (v := ?_) ?_ ?_; rotate_left
        · intro w' hw'; go_simp; (try with_reducible rfl)
        simp only [st0_, st1_]
        refine opR_ 2 15 (v := ?_) ?_ ?_; rotate_left
        · intro w' hw'; go_simp; (try with_reducible rfl)
        simp only [st0_, st1_]
        refine opR_ 3 16 (v := ?_) ?_ ?_; rotate_left
        · intro w' hw'; go_simp; (try with_reducible rfl)
        simp only [st0_, st1_]
        refine opR_ 4 17 (v := ?_) ?_ ?_; rotate_left
        · intro w' hw'; go_simp; (try with_reducible rfl)
        simp only [st0_, st1_]
        refine opR_ 5 18 (v := ?_) ?_ ?_; rotate_left
        · intro w' hw'; go_simp; (try with_reducible rfl)
        simp only [st0_, st1_]
        refine opR_ 6 19 (v := ?_) ?_ ?_; rotate_left
        · intro w' hw'; go_simp; (try with_reducible rfl)
        simp only [st0_, st1_]
        refine opR_ 7 20 (v := ?_) ?_ ?_; rotate_left
        · intro w' hw'; go_simp; (try with_reducible rfl)
        simp only [st0_, st1_]
        refine opX_ 8 21 ?_
        apply Exists.intro
        apply And.intro
        · apply yr_call; rfl; rotate_left; intro w' hw'; exact HOr'.out w'; intro w'; go_simp
        simp only [st0_, st1_]
        refine opR_ 9 22 (v := ?_) ?_ ?_; rotate_left
        · intro w' hw'; go_simp; (try with_reducible rfl)
        simp only [st0_, st1_]
        refine wpR_done (by kernel_rfl) ?_ _
        intro w' hw'
        have hE2 : RowKit.Hid (Below w.heap.size w w') := hE.out.trans (hw'.mono hE.out.size)
        clear g0 g1 g2 g3 g4 g5 hw' d1 d2 d3 e1 e2 e3
        go_wp2
        go_roundw
        case rel => exact ⟨k2 + 1, by omega, by go_num, by rw [HS.out], hE2.out⟩
        case measure => simp [intOf]; omega
    · have hkl : k2 = L.length := by omega
      subst hkl
      have hlm := leastI_le L L.length
      have ht := turnD_get L
      have hlen := turnD_length L
      obtain ⟨R, gR⟩ : ∃ v, turnD L = v := ⟨_, rfl⟩
      obtain ⟨m, gm⟩ : ∃ v, leastI L L.length = v := ⟨_, rfl⟩
      rw [gm, gR] at ht
      rw [gR] at hlen
      rw [gm] at hlm ⊢
      have GR := Lib.hid gR
      have HT := Lib.hid ht
      have HLen := Lib.hid hlen
      clear ht gm gR hlen
      obtain ⟨W1, rfl⟩ : ∃ x : World, x = wr := ⟨_, rfl⟩
      have HO : RowKit.Hid (Ow w w.heap.size 49 3 (.slice (some ⟨W1.heap.size, 0, none⟩) 0 0) 0 [] (W1.alloc (.cells #[] 49))) := Ow.new_ (cs := #[]) HBw.out (Nat.le_refl _) HBw.out.size (Nat.zero_le _) rfl
      clear hbw
      go_wp2
      go_loopw [5, 6] (fun v i wr => ∃ k : Nat, k ≤ L.length ∧ i = .int .i64 k ∧ Ow w w.heap.size 49 3 v (R.take k).length (dartsV (R.take k)) wr) (fun _ i _ => L.length - (intOf i).toNat)
      case atStart => exact ⟨0, Nat.zero_le _, rfl, HO.out⟩
      case round =>
        clear HO
        obtain ⟨k, hk, rfl, how⟩ := hrel
        have HO := Lib.hid how
        by_cases hlt : k < L.length
        · obtain ⟨b, off, rfl, hb, hc⟩ := (HR.out.up how.below how.below.size).darts (by omega)
          have hj : (m + k) % L.length < L.length := Nat.mod_lt _ (by omega)
          have hmod : ((m : Int) + (k : Int)) % (L.length : Int) = (((m + k) % L.length : Nat) : Int) := by rw [Int.natCast_emod, Int.natCast_add]
          have hx := HT.out k hlt
          obtain ⟨j, gj⟩ : ∃ v, (m + k) % L.length = v := ⟨_, rfl⟩
          rw [gj] at hj hmod hx
          obtain ⟨c1, c2, c3⟩ := hc j hj
          obtain ⟨x, gx⟩ : ∃ v, L.getD j (0, 0, 0) = v := ⟨_, rfl⟩
          rw [gx] at c1 c2 c3 hx
          have HX := Lib.hid hx
          have HTk := Lib.hid (take_snocD R k (by rw [HLen.out]; exact hlt))
          have hlk : (R.take k).length ≤ 5864062014634 := by
            have := List.length_take_le k R
            omega
          clear hc how gj gx hx
          go_wp2_with (first
            | (at_builtin
               refine wpList_push rfl (.tmp 31) (.tmp 41) _ rfl _ 49 i0 _ 3 24 Tryz.underlying45 hi hz0 hz1 hz2 rfl (by decide) _ _ _ rfl (by exact HO.out.up (below1 _ _)) _ (some ⟨wr.heap.size, 0, none⟩) 1 1 (dartsV [x]) rfl (by exact RdS.whole3 (L := [x]) (Whole.new_ _ _ _)) (dartsV_one [x]) (by unfold maxLen; omega) (by omega) ?_
               intro v1 w1 how1 hb1
               have HO1 := Lib.hid how1
               clear how1 hb1))
          go_roundw
          case rel =>
            refine ⟨k + 1, by omega, by go_num, ?_⟩
            rw [HTk.out, HX.out, List.length_append, dartsV_app]
            exact HO1.out
          case measure => simp [intOf]; omega
        · have htk : R.take k = R := List.take_of_length_le (by rw [HLen.out]; omega)
          rw [htk] at HO
          clear how htk
          obtain ⟨A1, c1, hv, hr1⟩ := HO.out.rds
          subst hv
          have HR1 := Lib.hid hr1
          clear hr1
          go_wp2
          go_ret
          rw [GR.out]
          exact ⟨A1, c1, rfl, HR1.out, HO.out.below⟩
end Go.Proofs.YtmkflebkifbpfaaGreat
/- The document's MayAttr, Vertex, Edge, At, times. -/
namespace Go.Proofs.YtmkflebkifbpfaaGreat
open Go.RowKit
set_option maxRecDepth 100000 in
theorem rmayattr_any (n : Int) : Pure 41 #[.int .i64 n] (.bool (mayA n)) := fun w => by
  unfold mayA
  by_cases h1 : -1099511627776 ≤ n
  · by_cases h2 : n ≤ 1099511627776
    · rw [decide_eq_true ⟨h1, h2⟩]
      go_enter Tryz.func41, Tryz.ntmps41
      go_wp2
      go_ret
      exact ⟨rfl, Below.refl _ _⟩
    · rw [decide_eq_false (fun h => h2 h.2)]
      go_enter Tryz.func41, Tryz.ntmps41
      go_wp2
      go_ret
      exact ⟨rfl, Below.refl _ _⟩
  · rw [decide_eq_false (fun h => h1 h.1)]
    go_enter Tryz.func41, Tryz.ntmps41
    go_wp2
    go_ret
    exact ⟨rfl, Below.refl _ _⟩
set_option maxRecDepth 100000 in
set_option maxHeartbeats 4000000 in
theorem rfindV (A : Option Addr) (n c : Nat) (Vs : List VC) (B : Option Addr) (m k : Nat) (Es : List EC) (x1 x2 : Int) (w : World) (h : RdS w w.heap.size 5 A n c (rowsV vC Vs)) (hn : n ≤ 140737488355328) :
    Calls Tryz.prog 109 #[.agg #[.slice A n c, .slice B m k], .agg #[.int .i64 x1, .int .i64 x2]] w fun e w' => e = .returned (.tuple #[.agg (vC (fndV Vs (x1, x2)).1).toArray, .bool (fndV Vs (x1, x2)).2]) ∧ Below w.heap.size w w' := by
  have H := Lib.hid h
  have Hl := Lib.hid (h.rlen vC_len (by decide))
  obtain ⟨⟨r, ok⟩, gr⟩ : ∃ z, fndV Vs (x1, x2) = z := ⟨_, rfl⟩
  rw [gr]
  have HG := Lib.hid gr
  clear h gr
  go_enter Tryz.func109, Tryz.ntmps109
  go_wp2
  have hx0 : Whole (((w.alloc (.cells #[.slice A n c, .slice B m k] 25)).alloc (.cells #[.int .i64 x1, .int .i64 x2] 41)).alloc (.cells #[.int .i64 0, .int .i64 0, .slice none 0 0, .string { data := #[] }, .int .i64 0] 47)) (w.heap.size) 25 [.slice A n c, .slice B m k] := (((Whole.new_ w 25 [.slice A n c, .slice B m k]).alloc (.cells #[.int .i64 x1, .int .i64 x2] 41)).alloc (.cells #[.int .i64 0, .int .i64 0, .slice none 0 0, .string { data := #[] }, .int .i64 0] 47))
  have hx1 : Whole (((w.alloc (.cells #[.slice A n c, .slice B m k] 25)).alloc (.cells #[.int .i64 x1, .int .i64 x2] 41)).alloc (.cells #[.int .i64 0, .int .i64 0, .slice none 0 0, .string { data := #[] }, .int .i64 0] 47)) (w.heap.size + 1) 41 [.int .i64 x1, .int .i64 x2] := ((Whole.new2 (w := (w.alloc (.cells #[.slice A n c, .slice B m k] 25))) (by simp)).alloc (.cells #[.int .i64 0, .int .i64 0, .slice none 0 0, .string { data := #[] }, .int .i64 0] 47))
  have hx2 : Whole (((w.alloc (.cells #[.slice A n c, .slice B m k] 25)).alloc (.cells #[.int .i64 x1, .int .i64 x2] 41)).alloc (.cells #[.int .i64 0, .int .i64 0, .slice none 0 0, .string { data := #[] }, .int .i64 0] 47)) (w.heap.size + 1 + 1) 47 [.int .i64 0, .int .i64 0, .slice none 0 0, .string { data := #[] }, .int .i64 0] := (Whole.new2 (w := ((w.alloc (.cells #[.slice A n c, .slice B m k] 25)).alloc (.cells #[.int .i64 x1, .int .i64 x2] 41))) (by simp))
  have hbl : Below w.heap.size w (((w.alloc (.cells #[.slice A n c, .slice B m k] 25)).alloc (.cells #[.int .i64 x1, .int .i64 x2] 41)).alloc (.cells #[.int .i64 0, .int .i64 0, .slice none 0 0, .string { data := #[] }, .int .i64 0] 47)) := (bel_al (bel_al (below1 w (.cells #[.slice A n c, .slice B m k] 25)) (.cells #[.int .i64 x1, .int .i64 x2] 41)) (.cells #[.int .i64 0, .int .i64 0, .slice none 0 0, .string { data := #[] }, .int .i64 0] 47))
  have hsz : w.heap.size + 1 + 1 + 1 ≤ ((((w.alloc (.cells #[.slice A n c, .slice B m k] 25)).alloc (.cells #[.int .i64 x1, .int .i64 x2] 41)).alloc (.cells #[.int .i64 0, .int .i64 0, .slice none 0 0, .string { data := #[] }, .int .i64 0] 47))).heap.size := by simp
  obtain ⟨W0, gW0⟩ : ∃ z, (((w.alloc (.cells #[.slice A n c, .slice B m k] 25)).alloc (.cells #[.int .i64 x1, .int .i64 x2] 41)).alloc (.cells #[.int .i64 0, .int .i64 0, .slice none 0 0, .string { data := #[] }, .int .i64 0] 47)) = z := ⟨_, rfl⟩
  rw [gW0] at hx0 hx1 hx2 hbl hsz
  obtain ⟨b2, gb2⟩ : ∃ z, w.heap.size + 1 + 1 = z := ⟨_, rfl⟩
  rw [gb2] at hx2
  obtain ⟨b1, gb1⟩ : ∃ z, w.heap.size + 1 = z := ⟨_, rfl⟩
  rw [gb1] at hx1
  obtain ⟨b0, gb0⟩ : ∃ z, w.heap.size = z := ⟨_, rfl⟩
  rw [gb0] at hx0
  have HX0 := Lib.hid hx0
  have HX1 := Lib.hid hx1
  have HX2 := Lib.hid hx2
  have HB0 := Lib.hid hbl
  have HS0 := Lib.hid hsz
  have Gb0 := Lib.hid gb0
  have Lb0 : RowKit.Hid (w.heap.size ≤ b0) := Lib.hid (by omega)
  have Gb1 := Lib.hid gb1
  have Lb1 : RowKit.Hid (w.heap.size ≤ b1) := Lib.hid (by omega)
  have Gb2 := Lib.hid gb2
  have Lb2 : RowKit.Hid (w.heap.size ≤ b2) := Lib.hid (by omega)
  have N01 : RowKit.Hid (b0 ≠ b1) := Lib.hid (by omega)
  have N02 : RowKit.Hid (b0 ≠ b2) := Lib.hid (by omega)
  have N12 : RowKit.Hid (b1 ≠ b2) := Lib.hid (by omega)
  rw [gW0, gb2, gb1, gb0]
  clear gW0 hbl hsz hx0 hx1 hx2 gb0 gb1 gb2
  go_loopw [6] (fun si wr => ∃ j : Nat, j ≤ n ∧ si = .int .i64 j ∧ RowKit.Hid (Below w.heap.size w wr) ∧ RowKit.Hid (Whole wr b0 25 [.slice A n c, .slice B m k]) ∧ RowKit.Hid (Whole wr b1 41 [.int .i64 x1, .int .i64 x2]) ∧ RowKit.Hid (Whole wr b2 47 [.int .i64 0, .int .i64 0, .slice none 0 0, .string { data := #[] }, .int .i64 0]) ∧ RowKit.Hid (fndV (Vs.drop j) (x1, x2) = (r, ok))) (fun si _ => n - (intOf si).toNat)
  case atStart => exact ⟨0, by omega, rfl, HB0, HX0, HX1, HX2, HG⟩
  case round =>
    clear HB0 HX0 HX1 HX2 HG
    obtain ⟨j, hj, rfl, HB, HX0, HX1, HX2, HG⟩ := hrel
    obtain ⟨wo, gwo⟩ : ∃ z, wr = z := ⟨_, rfl⟩
    rw [gwo] at HB HX0 HX1 HX2 ⊢
    clear gwo
    by_cases hjn : j < n
    · obtain ⟨x, hx⟩ : ∃ x, Vs[j]? = some x := ⟨_, List.getElem?_eq_getElem (by have := Hl.out; omega)⟩
      have hdr : Vs.drop j = x :: Vs.drop (j + 1) := by
        rw [List.drop_eq_getElem_cons (List.getElem?_eq_some_iff.1 hx).1, (List.getElem?_eq_some_iff.1 hx).2]
      have hg2 := HG.out
      rw [hdr] at hg2
      have HG2 := Lib.hid hg2
      obtain ⟨bb, off, rfl, hbB, hpl⟩ := H.out.place vC_len (by decide) (by omega)
      have Hbo : RowKit.Hid (bb < wo.heap.size) := Lib.hid (Nat.lt_of_lt_of_le hbB HB.out.size)
      have hbw := HB.out
      have q0 := hpl j _ hx 0 _ rfl
      have q1 := hpl j _ hx 1 _ rfl
      have q2 := hpl j _ hx 2 _ rfl
      have q3 := hpl j _ hx 3 _ rfl
      have q4 := hpl j _ hx 4 _ rfl
      simp only [Addr.add_lit, Nat.add_zero] at q0 q1 q2 q3 q4
      have l0 := (hbw.cell (p := ⟨bb, off + j * 5, none⟩) hbB).trans q0
      have l1 := (hbw.cell (p := ⟨bb, off + j * 5 + 1, none⟩) hbB).trans q1
      have l2 := (hbw.cell (p := ⟨bb, off + j * 5 + 2, none⟩) hbB).trans q2
      have l3 := (hbw.cell (p := ⟨bb, off + j * 5 + 3, none⟩) hbB).trans q3
      have l4 := (hbw.cell (p := ⟨bb, off + j * 5 + 4, none⟩) hbB).trans q4
      clear hbw q0 q1 q2 q3 q4
      obtain ⟨⟨i1, i2⟩, ⟨rA, rn, rc, rL⟩, lb, at_⟩ := x
      have HE := Lib.hid (And.intro l0 (And.intro l1 (And.intro l2 (And.intro l3 l4))))
      have cb := HX0.out.cell (i := 0) rfl
      clear hx hdr hg2 hpl hbB HG
      have ldl0 := l0
      go_upto_region 4 with fail
      clear cb ldl0
      have ldb : ∀ w', Kept Nil_ wo.drew w' → w'.cell? ⟨b0, 0, none⟩ = some (.slice (some ⟨bb, off, none⟩) n c) := fun w' h => h.nil_cell (HX0.out.dr.cell (i := 0) rfl)
      have ldx : ∀ w', Kept Nil_ wo.drew w' → w'.cell? ⟨b1, 0, none⟩ = some (.int .i64 x1) := fun w' h => h.nil_cell (HX1.out.dr.cell (i := 0) rfl)
      have ldy : ∀ w', Kept Nil_ wo.drew w' → w'.cell? ⟨b1, 1, none⟩ = some (.int .i64 x2) := fun w' h => h.nil_cell (HX1.out.dr.cell (i := 1) rfl)
      have lde : ∀ w', Kept Nil_ wo.drew w' → w'.cell? ⟨bb, off + j * 5, none⟩ = some (.int .i64 i1) := fun w' h => h.nil_cell (l0)
      have ldf : ∀ w', Kept Nil_ wo.drew w' → w'.cell? ⟨bb, off + j * 5 + 1, none⟩ = some (.int .i64 i2) := fun w' h => h.nil_cell (l1)
      clear l0 l1 l2 l3 l4
      have heq := fun W => eq_id i1 i2 x1 x2 W
      obtain ⟨bq, gbq⟩ : ∃ z, (i1 == x1 && i2 == x2) = z := ⟨_, rfl⟩
      rw [gbq] at heq
      have Gbq := Lib.hid gbq
      clear gbq
      refine wp_region_reg (Nil_) (by kernel_rfl) ?_
      refine opR_ 0 14 (v := ?_) ?_ ?_; rotate_left
      · intro w' hw'; go_simp; (try with_reducible rfl)
      simp only [st0_, st1_]
      refine opR_ 1 15 (v := ?_) ?_ ?_; rotate_left
      · intro w' hw'; go_simp; (try with_reducible rfl)
      simp only [st0_, st1_]
      refine opR_ 2 16 (v := ?_) ?_ ?_; rotate_left
      · intro w' hw'; go_simp; (try with_reducible rfl)
      simp only [st0_, st1_]
      refine opR_ 3 17 (v := ?_) ?_ ?_; rotate_left
      · intro w' hw'; go_simp; (try with_reducible rfl)
      simp only [st0_, st1_]
      refine opR_ 4 18 (v := ?_) ?_ ?_; rotate_left
      · intro w' hw'; go_simp; (try with_reducible rfl)
      simp only [st0_, st1_]
      refine opR_ 5 19 (v := ?_) ?_ ?_; rotate_left
      · intro w' hw'; go_simp; (try with_reducible rfl)
      simp only [st0_, st1_]
      refine opR_ 6 20 (v := ?_) ?_ ?_; rotate_left
      · intro w' hw'; go_simp; (try with_reducible rfl)
      simp only [st0_, st1_]
      refine opR_ 7 21 (v := ?_) ?_ ?_; rotate_left
      · intro w' hw'; go_simp; (try with_reducible rfl)
      simp only [st0_, st1_]
      refine wpR_done (by kernel_rfl) ?_ _
      intro W3 hw3
      have HX03 := Lib.hid (HX0.out.dr.bl hw3)
      have HX13 := Lib.hid (HX1.out.dr.bl hw3)
      have HX23 := Lib.hid (HX2.out.dr.bl hw3)
      have HE3 : RowKit.Hid (Below wo.heap.size wo W3) := Lib.hid (bel_bl (bel_dr (Below.refl _ _)) hw3)
      have HB3 := Lib.hid (bel_bl HB.out HE3.out)
      clear hw3 ldb ldx ldy lde ldf HB HX0 HX1 HX2 heq
      cases bq with
      | true =>
        have hq := Gbq.out
        rw [Bool.and_eq_true, beq_iff_eq, beq_iff_eq] at hq
        have hg := HG2.out
        rw [fndV, fnd_yes _ _ _ _ _ (by rw [hq.1, hq.2])] at hg
        injection hg with hg1 hg2
        subst hg1 hg2
        obtain ⟨l0, l1, l2, l3, l4⟩ := HE.out
        have hB3 := HE3.out
        have hbo := Hbo.out
        have cb := HX03.out.cell (i := 0) rfl
        have f0 := HX23.out.free 0
        have k0 := HX23.out.cell (i := 0) rfl
        have y0 := (hB3.cell (p := ⟨bb, off + j * 5, none⟩) hbo).trans l0
        have f1 := HX23.out.free 1
        have k1 := HX23.out.cell (i := 1) rfl
        have y1 := (hB3.cell (p := ⟨bb, off + j * 5 + 1, none⟩) hbo).trans l1
        have f2 := HX23.out.free 2
        have k2 := HX23.out.cell (i := 2) rfl
        have y2 := (hB3.cell (p := ⟨bb, off + j * 5 + 2, none⟩) hbo).trans l2
        have f3 := HX23.out.free 3
        have k3 := HX23.out.cell (i := 3) rfl
        have y3 := (hB3.cell (p := ⟨bb, off + j * 5 + 3, none⟩) hbo).trans l3
        have f4 := HX23.out.free 4
        have k4 := HX23.out.cell (i := 4) rfl
        have y4 := (hB3.cell (p := ⟨bb, off + j * 5 + 4, none⟩) hbo).trans l4
        have HY := Lib.hid (((((HX23.out.set_ 0 (.int .i64 i1)).set_ 1 (.int .i64 i2)).set_ 2 (.slice rA rn rc)).set_ 3 (.string lb)).set_ 4 (.int .i64 at_))
        have HBf := Lib.hid (((((HB3.out.setCell (p := ⟨b2, 0, none⟩) Lb2.out (.int .i64 i1)).setCell (p := ⟨b2, 1, none⟩) Lb2.out (.int .i64 i2)).setCell (p := ⟨b2, 2, none⟩) Lb2.out (.slice rA rn rc)).setCell (p := ⟨b2, 3, none⟩) Lb2.out (.string lb)).setCell (p := ⟨b2, 4, none⟩) Lb2.out (.int .i64 at_))
        clear HX23 HG2 HB3 hq l0 l1 l2 l3 l4 HE hB3 HE3
        go_wp2
        exact ret_whole2 rfl b2 rfl rfl HY.out Tryz.underlying47 rfl (by kernel_rfl) rfl ⟨rfl, HBf.out⟩
      | false =>
        have hg := HG2.out
        rw [fndV, fnd_no _ _ _ _ _ (fun e => by
          have e1 : i1 = x1 := congrArg Prod.fst e
          have e2 : i2 = x2 := congrArg Prod.snd e
          have := Gbq.out
          rw [e1, e2] at this
          simp at this)] at hg
        have HG4 := Lib.hid hg
        clear hg HG2 HE HE3
        go_wp2
        go_roundw
        case rel => exact ⟨j + 1, by omega, by go_num, HB3, HX03, HX13, HX23, HG4⟩
        case measure => simp [intOf]; omega
    · obtain rfl : n = j := by omega
      have hg := HG.out
      rw [List.drop_eq_nil_of_le (by have := Hl.out; omega)] at hg
      replace hg : (zV, false) = (r, ok) := hg
      injection hg with hg1 hg2
      subst hg1 hg2
      have cb := HX0.out.cell (i := 0) rfl
      have f0 := HX2.out.free 0
      have k0 := HX2.out.cell (i := 0) rfl
      have f1 := HX2.out.free 1
      have k1 := HX2.out.cell (i := 1) rfl
      have f2 := HX2.out.free 2
      have k2 := HX2.out.cell (i := 2) rfl
      have f3 := HX2.out.free 3
      have k3 := HX2.out.cell (i := 3) rfl
      have f4 := HX2.out.free 4
      have k4 := HX2.out.cell (i := 4) rfl
      have HY := Lib.hid (((((HX2.out.set_ 0 (.int .i64 0)).set_ 1 (.int .i64 0)).set_ 2 (.slice none 0 0)).set_ 3 (.string { data := #[] })).set_ 4 (.int .i64 0))
      have HBf := Lib.hid (((((HB.out.setCell (p := ⟨b2, 0, none⟩) Lb2.out (.int .i64 0)).setCell (p := ⟨b2, 1, none⟩) Lb2.out (.int .i64 0)).setCell (p := ⟨b2, 2, none⟩) Lb2.out (.slice none 0 0)).setCell (p := ⟨b2, 3, none⟩) Lb2.out (.string { data := #[] })).setCell (p := ⟨b2, 4, none⟩) Lb2.out (.int .i64 0))
      clear HG HX2
      go_wp2
      exact ret_whole2 rfl b2 rfl rfl HY.out Tryz.underlying47 rfl (by kernel_rfl) rfl ⟨rfl, HBf.out⟩
set_option maxRecDepth 100000 in
set_option maxHeartbeats 4000000 in
theorem rfindE (A : Option Addr) (n c : Nat) (Vs : List VC) (B : Option Addr) (m k : Nat) (Es : List EC) (x1 x2 : Int) (w : World) (h : RdS w w.heap.size 4 B m k (rowsV eC Es)) (hn : m ≤ 140737488355328) :
    Calls Tryz.prog 62 #[.agg #[.slice A n c, .slice B m k], .agg #[.int .i64 x1, .int .i64 x2]] w fun e w' => e = .returned (.tuple #[.agg (eC (fndE Es (x1, x2)).1).toArray, .bool (fndE Es (x1, x2)).2]) ∧ Below w.heap.size w w' := by
  have H := Lib.hid h
  have Hl := Lib.hid (h.rlen eC_len (by decide))
  obtain ⟨⟨r, ok⟩, gr⟩ : ∃ z, fndE Es (x1, x2) = z := ⟨_, rfl⟩
  rw [gr]
  have HG := Lib.hid gr
  clear h gr
  go_enter Tryz.func62, Tryz.ntmps62
  go_wp2
  have hx0 : Whole (((w.alloc (.cells #[.slice A n c, .slice B m k] 25)).alloc (.cells #[.int .i64 x1, .int .i64 x2] 41)).alloc (.cells #[.int .i64 0, .int .i64 0, .string { data := #[] }, .int .i64 0] 43)) (w.heap.size) 25 [.slice A n c, .slice B m k] := (((Whole.new_ w 25 [.slice A n c, .slice B m k]).alloc (.cells #[.int .i64 x1, .int .i64 x2] 41)).alloc (.cells #[.int .i64 0, .int .i64 0, .string { data := #[] }, .int .i64 0] 43))
  have hx1 : Whole (((w.alloc (.cells #[.slice A n c, .slice B m k] 25)).alloc (.cells #[.int .i64 x1, .int .i64 x2] 41)).alloc (.cells #[.int .i64 0, .int .i64 0, .string { data := #[] }, .int .i64 0] 43)) (w.heap.size + 1) 41 [.int .i64 x1, .int .i64 x2] := ((Whole.new2 (w := (w.alloc (.cells #[.slice A n c, .slice B m k] 25))) (by simp)).alloc (.cells #[.int .i64 0, .int .i64 0, .string { data := #[] }, .int .i64 0] 43))
  have hx2 : Whole (((w.alloc (.cells #[.slice A n c, .slice B m k] 25)).alloc (.cells #[.int .i64 x1, .int .i64 x2] 41)).alloc (.cells #[.int .i64 0, .int .i64 0, .string { data := #[] }, .int .i64 0] 43)) (w.heap.size + 1 + 1) 43 [.int .i64 0, .int .i64 0, .string { data := #[] }, .int .i64 0] := (Whole.new2 (w := ((w.alloc (.cells #[.slice A n c, .slice B m k] 25)).alloc (.cells #[.int .i64 x1, .int .i64 x2] 41))) (by simp))
  have hbl : Below w.heap.size w (((w.alloc (.cells #[.slice A n c, .slice B m k] 25)).alloc (.cells #[.int .i64 x1, .int .i64 x2] 41)).alloc (.cells #[.int .i64 0, .int .i64 0, .string { data := #[] }, .int .i64 0] 43)) := (bel_al (bel_al (below1 w (.cells #[.slice A n c, .slice B m k] 25)) (.cells #[.int .i64 x1, .int .i64 x2] 41)) (.cells #[.int .i64 0, .int .i64 0, .string { data := #[] }, .int .i64 0] 43))
  have hsz : w.heap.size + 1 + 1 + 1 ≤ ((((w.alloc (.cells #[.slice A n c, .slice B m k] 25)).alloc (.cells #[.int .i64 x1, .int .i64 x2] 41)).alloc (.cells #[.int .i64 0, .int .i64 0, .string { data := #[] }, .int .i64 0] 43))).heap.size := by simp
  obtain ⟨W0, gW0⟩ : ∃ z, (((w.alloc (.cells #[.slice A n c, .slice B m k] 25)).alloc (.cells #[.int .i64 x1, .int .i64 x2] 41)).alloc (.cells #[.int .i64 0, .int .i64 0, .string { data := #[] }, .int .i64 0] 43)) = z := ⟨_, rfl⟩
  rw [gW0] at hx0 hx1 hx2 hbl hsz
  obtain ⟨b2, gb2⟩ : ∃ z, w.heap.size + 1 + 1 = z := ⟨_, rfl⟩
  rw [gb2] at hx2
  obtain ⟨b1, gb1⟩ : ∃ z, w.heap.size + 1 = z := ⟨_, rfl⟩
  rw [gb1] at hx1
  obtain ⟨b0, gb0⟩ : ∃ z, w.heap.size = z := ⟨_, rfl⟩
  rw [gb0] at hx0
  have HX0 := Lib.hid hx0
  have HX1 := Lib.hid hx1
  have HX2 := Lib.hid hx2
  have HB0 := Lib.hid hbl
  have HS0 := Lib.hid hsz
  have Gb0 := Lib.hid gb0
  have Lb0 : RowKit.Hid (w.heap.size ≤ b0) := Lib.hid (by omega)
  have Gb1 := Lib.hid gb1
  have Lb1 : RowKit.Hid (w.heap.size ≤ b1) := Lib.hid (by omega)
  have Gb2 := Lib.hid gb2
  have Lb2 : RowKit.Hid (w.heap.size ≤ b2) := Lib.hid (by omega)
  have N01 : RowKit.Hid (b0 ≠ b1) := Lib.hid (by omega)
  have N02 : RowKit.Hid (b0 ≠ b2) := Lib.hid (by omega)
  have N12 : RowKit.Hid (b1 ≠ b2) := Lib.hid (by omega)
  rw [gW0, gb2, gb1, gb0]
  clear gW0 hbl hsz hx0 hx1 hx2 gb0 gb1 gb2
  go_loopw [6] (fun si wr => ∃ j : Nat, j ≤ m ∧ si = .int .i64 j ∧ RowKit.Hid (Below w.heap.size w wr) ∧ RowKit.Hid (Whole wr b0 25 [.slice A n c, .slice B m k]) ∧ RowKit.Hid (Whole wr b1 41 [.int .i64 x1, .int .i64 x2]) ∧ RowKit.Hid (Whole wr b2 43 [.int .i64 0, .int .i64 0, .string { data := #[] }, .int .i64 0]) ∧ RowKit.Hid (fndE (Es.drop j) (x1, x2) = (r, ok))) (fun si _ => m - (intOf si).toNat)
  case atStart => exact ⟨0, by omega, rfl, HB0, HX0, HX1, HX2, HG⟩
  case round =>
    clear HB0 HX0 HX1 HX2 HG
    obtain ⟨j, hj, rfl, HB, HX0, HX1, HX2, HG⟩ := hrel
    obtain ⟨wo, gwo⟩ : ∃ z, wr = z := ⟨_, rfl⟩
    rw [gwo] at HB HX0 HX1 HX2 ⊢
    clear gwo
    by_cases hjn : j < m
    · obtain ⟨x, hx⟩ : ∃ x, Es[j]? = some x := ⟨_, List.getElem?_eq_getElem (by have := Hl.out; omega)⟩
      have hdr : Es.drop j = x :: Es.drop (j + 1) := by
        rw [List.drop_eq_getElem_cons (List.getElem?_eq_some_iff.1 hx).1, (List.getElem?_eq_some_iff.1 hx).2]
      have hg2 := HG.out
      rw [hdr] at hg2
      have HG2 := Lib.hid hg2
      obtain ⟨bb, off, rfl, hbB, hpl⟩ := H.out.place eC_len (by decide) (by omega)
      have Hbo : RowKit.Hid (bb < wo.heap.size) := Lib.hid (Nat.lt_of_lt_of_le hbB HB.out.size)
      have hbw := HB.out
      have q0 := hpl j _ hx 0 _ rfl
      have q1 := hpl j _ hx 1 _ rfl
      have q2 := hpl j _ hx 2 _ rfl
      have q3 := hpl j _ hx 3 _ rfl
      simp only [Addr.add_lit, Nat.add_zero] at q0 q1 q2 q3
      have l0 := (hbw.cell (p := ⟨bb, off + j * 4, none⟩) hbB).trans q0
      have l1 := (hbw.cell (p := ⟨bb, off + j * 4 + 1, none⟩) hbB).trans q1
      have l2 := (hbw.cell (p := ⟨bb, off + j * 4 + 2, none⟩) hbB).trans q2
      have l3 := (hbw.cell (p := ⟨bb, off + j * 4 + 3, none⟩) hbB).trans q3
      clear hbw q0 q1 q2 q3
      obtain ⟨⟨i1, i2⟩, lb, at_⟩ := x
      have HE := Lib.hid (And.intro l0 (And.intro l1 (And.intro l2 l3)))
      have cb := HX0.out.cell (i := 1) rfl
      clear hx hdr hg2 hpl hbB HG
      have ldl0 := l0
      go_upto_region 4 with fail
      clear cb ldl0
      have ldb : ∀ w', Kept Nil_ wo.drew w' → w'.cell? ⟨b0, 1, none⟩ = some (.slice (some ⟨bb, off, none⟩) m k) := fun w' h => h.nil_cell (HX0.out.dr.cell (i := 1) rfl)
      have ldx : ∀ w', Kept Nil_ wo.drew w' → w'.cell? ⟨b1, 0, none⟩ = some (.int .i64 x1) := fun w' h => h.nil_cell (HX1.out.dr.cell (i := 0) rfl)
      have ldy : ∀ w', Kept Nil_ wo.drew w' → w'.cell? ⟨b1, 1, none⟩ = some (.int .i64 x2) := fun w' h => h.nil_cell (HX1.out.dr.cell (i := 1) rfl)
      have lde : ∀ w', Kept Nil_ wo.drew w' → w'.cell? ⟨bb, off + j * 4, none⟩ = some (.int .i64 i1) := fun w' h => h.nil_cell (l0)
      have ldf : ∀ w', Kept Nil_ wo.drew w' → w'.cell? ⟨bb, off + j * 4 + 1, none⟩ = some (.int .i64 i2) := fun w' h => h.nil_cell (l1)
      clear l0 l1 l2 l3
      have heq := fun W => eq_id i1 i2 x1 x2 W
      obtain ⟨bq, gbq⟩ : ∃ z, (i1 == x1 && i2 == x2) = z := ⟨_, rfl⟩
      rw [gbq] at heq
      have Gbq := Lib.hid gbq
      clear gbq
      refine wp_region_reg (Nil_) (by kernel_rfl) ?_
      refine opR_ 0 14 (v := ?_) ?_ ?_; rotate_left
      · intro w' hw'; go_simp; (try with_reducible rfl)
      simp only [st0_, st1_]
      refine opR_ 1 15 (v := ?_) ?_ ?_; rotate_left
      · intro w' hw'; go_simp; (try with_reducible rfl)
      simp only [st0_, st1_]
      refine opR_ 2 16 (v := ?_) ?_ ?_; rotate_left
      · intro w' hw'; go_simp; (try with_reducible rfl)
      simp only [st0_, st1_]
      refine opR_ 3 17 (v := ?_) ?_ ?_; rotate_left
      · intro w' hw'; go_simp; (try with_reducible rfl)
      simp only [st0_, st1_]
      refine opR_ 4 18 (v := ?_) ?_ ?_; rotate_left
      · intro w' hw'; go_simp; (try with_reducible rfl)
      simp only [st0_, st1_]
      refine opR_ 5 19 (v := ?_) ?_ ?_; rotate_left
      · intro w' hw'; go_simp; (try with_reducible rfl)
      simp only [st0_, st1_]
      refine opR_ 6 20 (v := ?_) ?_ ?_; rotate_left
      · intro w' hw'; go_simp; (try with_reducible rfl)
      simp only [st0_, st1_]
      refine opR_ 7 21 (v := ?_) ?_ ?_; rotate_left
      · intro w' hw'; go_simp; (try with_reducible rfl)
      simp only [st0_, st1_]
      refine wpR_done (by kernel_rfl) ?_ _
      intro W3 hw3
      have HX03 := Lib.hid (HX0.out.dr.bl hw3)
      have HX13 := Lib.hid (HX1.out.dr.bl hw3)
      have HX23 := Lib.hid (HX2.out.dr.bl hw3)
      have HE3 : RowKit.Hid (Below wo.heap.size wo W3) := Lib.hid (bel_bl (bel_dr (Below.refl _ _)) hw3)
      have HB3 := Lib.hid (bel_bl HB.out HE3.out)
      clear hw3 ldb ldx ldy lde ldf HB HX0 HX1 HX2 heq
      cases bq with
      | true =>
        have hq := Gbq.out
        rw [Bool.and_eq_true, beq_iff_eq, beq_iff_eq] at hq
        have hg := HG2.out
        rw [fndE, fnd_yes _ _ _ _ _ (by rw [hq.1, hq.2])] at hg
        injection hg with hg1 hg2
        subst hg1 hg2
        obtain ⟨l0, l1, l2, l3⟩ := HE.out
        have hB3 := HE3.out
        have hbo := Hbo.out
        have cb := HX03.out.cell (i := 1) rfl
        have f0 := HX23.out.free 0
        have k0 := HX23.out.cell (i := 0) rfl
        have y0 := (hB3.cell (p := ⟨bb, off + j * 4, none⟩) hbo).trans l0
        have f1 := HX23.out.free 1
        have k1 := HX23.out.cell (i := 1) rfl
        have y1 := (hB3.cell (p := ⟨bb, off + j * 4 + 1, none⟩) hbo).trans l1
        have f2 := HX23.out.free 2
        have k2 := HX23.out.cell (i := 2) rfl
        have y2 := (hB3.cell (p := ⟨bb, off + j * 4 + 2, none⟩) hbo).trans l2
        have f3 := HX23.out.free 3
        have k3 := HX23.out.cell (i := 3) rfl
        have y3 := (hB3.cell (p := ⟨bb, off + j * 4 + 3, none⟩) hbo).trans l3
        have HY := Lib.hid ((((HX23.out.set_ 0 (.int .i64 i1)).set_ 1 (.int .i64 i2)).set_ 2 (.string lb)).set_ 3 (.int .i64 at_))
        have HBf := Lib.hid ((((HB3.out.setCell (p := ⟨b2, 0, none⟩) Lb2.out (.int .i64 i1)).setCell (p := ⟨b2, 1, none⟩) Lb2.out (.int .i64 i2)).setCell (p := ⟨b2, 2, none⟩) Lb2.out (.string lb)).setCell (p := ⟨b2, 3, none⟩) Lb2.out (.int .i64 at_))
        clear HX23 HG2 HB3 hq l0 l1 l2 l3 HE hB3 HE3
        go_wp2
        exact ret_whole2 rfl b2 rfl rfl HY.out Tryz.underlying43 rfl (by kernel_rfl) rfl ⟨rfl, HBf.out⟩
      | false =>
        have hg := HG2.out
        rw [fndE, fnd_no _ _ _ _ _ (fun e => by
          have e1 : i1 = x1 := congrArg Prod.fst e
          have e2 : i2 = x2 := congrArg Prod.snd e
          have := Gbq.out
          rw [e1, e2] at this
          simp at this)] at hg
        have HG4 := Lib.hid hg
        clear hg HG2 HE HE3
        go_wp2
        go_roundw
        case rel => exact ⟨j + 1, by omega, by go_num, HB3, HX03, HX13, HX23, HG4⟩
        case measure => simp [intOf]; omega
    · obtain rfl : m = j := by omega
      have hg := HG.out
      rw [List.drop_eq_nil_of_le (by have := Hl.out; omega)] at hg
      replace hg : (zE, false) = (r, ok) := hg
      injection hg with hg1 hg2
      subst hg1 hg2
      have cb := HX0.out.cell (i := 1) rfl
      have f0 := HX2.out.free 0
      have k0 := HX2.out.cell (i := 0) rfl
      have f1 := HX2.out.free 1
      have k1 := HX2.out.cell (i := 1) rfl
      have f2 := HX2.out.free 2
      have k2 := HX2.out.cell (i := 2) rfl
      have f3 := HX2.out.free 3
      have k3 := HX2.out.cell (i := 3) rfl
      have HY := Lib.hid ((((HX2.out.set_ 0 (.int .i64 0)).set_ 1 (.int .i64 0)).set_ 2 (.string { data := #[] })).set_ 3 (.int .i64 0))
      have HBf := Lib.hid ((((HB.out.setCell (p := ⟨b2, 0, none⟩) Lb2.out (.int .i64 0)).setCell (p := ⟨b2, 1, none⟩) Lb2.out (.int .i64 0)).setCell (p := ⟨b2, 2, none⟩) Lb2.out (.string { data := #[] })).setCell (p := ⟨b2, 3, none⟩) Lb2.out (.int .i64 0))
      clear HG HX2
      go_wp2
      exact ret_whole2 rfl b2 rfl rfl HY.out Tryz.underlying43 rfl (by kernel_rfl) rfl ⟨rfl, HBf.out⟩
end Go.Proofs.YtmkflebkifbpfaaGreat
/- The document's At, times. -/
namespace Go.Proofs.YtmkflebkifbpfaaGreat
open Go.RowKit
set_option maxRecDepth 100000 in
set_option maxHeartbeats 4000000 in
theorem rat_any (A : Option Addr) (n c : Nat) (Vs : List VC) (B : Option Addr) (m k : Nat) (Es : List EC) (x1 x2 x3 : Int) (w : World) (h : DgIn w A n c Vs B m k Es) (hn : n ≤ 140737488355328) (hr : ∀ y ∈ Vs, y.2.1.2.1 ≤ 5864062014634) :
    Calls Tryz.prog 95 #[.agg #[.slice A n c, .slice B m k], .agg #[.int .i64 x1, .int .i64 x2, .int .i64 x3]] w fun e w' =>
      e = .returned (.tuple #[.agg #[.int .i64 (atV Vs (x1, x2, x3)).1.1, .int .i64 (atV Vs (x1, x2, x3)).1.2], .bool (atV Vs (x1, x2, x3)).2]) ∧ Below w.heap.size w w' := by
  have H := Lib.hid h.v
  have HRg := Lib.hid h.r
  have Hhr := Lib.hid hr
  have Hl := Lib.hid (h.v.rlen vC_len (by decide))
  obtain ⟨⟨⟨r1, r2⟩, r3⟩, gr⟩ : ∃ z, atV Vs (x1, x2, x3) = z := ⟨_, rfl⟩
  rw [gr]
  have HG := Lib.hid gr
  clear h hr gr
  go_enter Tryz.func95, Tryz.ntmps95
  go_wp2
  have hx0 : Whole (((w.alloc (.cells #[.slice A n c, .slice B m k] 25)).alloc (.cells #[.int .i64 x1, .int .i64 x2, .int .i64 x3] 49)).alloc (.cells #[.int .i64 0, .int .i64 0] 41)) (w.heap.size) 25 [.slice A n c, .slice B m k] := (((Whole.new_ w 25 [.slice A n c, .slice B m k]).alloc (.cells #[.int .i64 x1, .int .i64 x2, .int .i64 x3] 49)).alloc (.cells #[.int .i64 0, .int .i64 0] 41))
  have hx1 : Whole (((w.alloc (.cells #[.slice A n c, .slice B m k] 25)).alloc (.cells #[.int .i64 x1, .int .i64 x2, .int .i64 x3] 49)).alloc (.cells #[.int .i64 0, .int .i64 0] 41)) (w.heap.size + 1) 49 [.int .i64 x1, .int .i64 x2, .int .i64 x3] := ((Whole.new2 (w := (w.alloc (.cells #[.slice A n c, .slice B m k] 25))) (by simp)).alloc (.cells #[.int .i64 0, .int .i64 0] 41))
  have hx2 : Whole (((w.alloc (.cells #[.slice A n c, .slice B m k] 25)).alloc (.cells #[.int .i64 x1, .int .i64 x2, .int .i64 x3] 49)).alloc (.cells #[.int .i64 0, .int .i64 0] 41)) (w.heap.size + 1 + 1) 41 [.int .i64 0, .int .i64 0] := (Whole.new2 (w := ((w.alloc (.cells #[.slice A n c, .slice B m k] 25)).alloc (.cells #[.int .i64 x1, .int .i64 x2, .int .i64 x3] 49))) (by simp))
  have hbl : Below w.heap.size w (((w.alloc (.cells #[.slice A n c, .slice B m k] 25)).alloc (.cells #[.int .i64 x1, .int .i64 x2, .int .i64 x3] 49)).alloc (.cells #[.int .i64 0, .int .i64 0] 41)) := (bel_al (bel_al (below1 w (.cells #[.slice A n c, .slice B m k] 25)) (.cells #[.int .i64 x1, .int .i64 x2, .int .i64 x3] 49)) (.cells #[.int .i64 0, .int .i64 0] 41))
  have hsz : w.heap.size + 1 + 1 + 1 ≤ ((((w.alloc (.cells #[.slice A n c, .slice B m k] 25)).alloc (.cells #[.int .i64 x1, .int .i64 x2, .int .i64 x3] 49)).alloc (.cells #[.int .i64 0, .int .i64 0] 41))).heap.size := by simp
  obtain ⟨W0, gW0⟩ : ∃ z, (((w.alloc (.cells #[.slice A n c, .slice B m k] 25)).alloc (.cells #[.int .i64 x1, .int .i64 x2, .int .i64 x3] 49)).alloc (.cells #[.int .i64 0, .int .i64 0] 41)) = z := ⟨_, rfl⟩
  rw [gW0] at hx0 hx1 hx2 hbl hsz
  obtain ⟨b2, gb2⟩ : ∃ z, w.heap.size + 1 + 1 = z := ⟨_, rfl⟩
  rw [gb2] at hx2
  obtain ⟨b1, gb1⟩ : ∃ z, w.heap.size + 1 = z := ⟨_, rfl⟩
  rw [gb1] at hx1
  obtain ⟨b0, gb0⟩ : ∃ z, w.heap.size = z := ⟨_, rfl⟩
  rw [gb0] at hx0
  have HX0 := Lib.hid hx0
  have HX1 := Lib.hid hx1
  have HX2 := Lib.hid hx2
  have HB0 := Lib.hid hbl
  have HS0 := Lib.hid hsz
  have Gb0 := Lib.hid gb0
  have Lb0 : RowKit.Hid (w.heap.size ≤ b0) := Lib.hid (by omega)
  have Gb1 := Lib.hid gb1
  have Lb1 : RowKit.Hid (w.heap.size ≤ b1) := Lib.hid (by omega)
  have Gb2 := Lib.hid gb2
  have Lb2 : RowKit.Hid (w.heap.size ≤ b2) := Lib.hid (by omega)
  have N01 : RowKit.Hid (b0 ≠ b1) := Lib.hid (by omega)
  have N02 : RowKit.Hid (b0 ≠ b2) := Lib.hid (by omega)
  have N12 : RowKit.Hid (b1 ≠ b2) := Lib.hid (by omega)
  rw [gW0, gb2, gb1, gb0]
  clear gW0 hbl hsz hx0 hx1 hx2 gb0 gb1 gb2
  go_loopw [6] (fun si wr => ∃ j : Nat, j ≤ n ∧ si = .int .i64 j ∧ RowKit.Hid (Below w.heap.size w wr) ∧ RowKit.Hid (Whole wr b0 25 [.slice A n c, .slice B m k]) ∧ RowKit.Hid (Whole wr b1 49 [.int .i64 x1, .int .i64 x2, .int .i64 x3]) ∧ RowKit.Hid (Whole wr b2 41 [.int .i64 0, .int .i64 0]) ∧ RowKit.Hid (atV (Vs.drop j) (x1, x2, x3) = ((r1, r2), r3))) (fun si _ => n - (intOf si).toNat)
  case atStart => exact ⟨0, by omega, rfl, HB0, HX0, HX1, HX2, HG⟩
  case round =>
    clear HB0 HX0 HX1 HX2 HG
    obtain ⟨j, hj, rfl, HB, HX0, HX1, HX2, HG⟩ := hrel
    obtain ⟨wo, gwo⟩ : ∃ z, wr = z := ⟨_, rfl⟩
    rw [gwo] at HB HX0 HX1 HX2 ⊢
    clear gwo
    by_cases hjn : j < n
    · obtain ⟨x, hx⟩ : ∃ x, Vs[j]? = some x := ⟨_, List.getElem?_eq_getElem (by have := Hl.out; omega)⟩
      have hdr : Vs.drop j = x :: Vs.drop (j + 1) := by
        rw [List.drop_eq_getElem_cons (List.getElem?_eq_some_iff.1 hx).1, (List.getElem?_eq_some_iff.1 hx).2]
      have hg2 := HG.out
      rw [hdr] at hg2
      have HG2 := Lib.hid hg2
      have hrg := HRg.out x (List.mem_of_getElem? hx)
      have hrn := Hhr.out x (List.mem_of_getElem? hx)
      obtain ⟨bb, off, rfl, hbB, hpl⟩ := H.out.place vC_len (by decide) (by omega)
      have Hbo : RowKit.Hid (bb < wo.heap.size) := Lib.hid (Nat.lt_of_lt_of_le hbB HB.out.size)
      have hbw := HB.out
      have q0 := hpl j _ hx 0 _ rfl
      have q1 := hpl j _ hx 1 _ rfl
      have q2 := hpl j _ hx 2 _ rfl
      have q3 := hpl j _ hx 3 _ rfl
      have q4 := hpl j _ hx 4 _ rfl
      simp only [Addr.add_lit, Nat.add_zero] at q0 q1 q2 q3 q4
      have l0 := (hbw.cell (p := ⟨bb, off + j * 5, none⟩) hbB).trans q0
      have l1 := (hbw.cell (p := ⟨bb, off + j * 5 + 1, none⟩) hbB).trans q1
      have l2 := (hbw.cell (p := ⟨bb, off + j * 5 + 2, none⟩) hbB).trans q2
      have l3 := (hbw.cell (p := ⟨bb, off + j * 5 + 3, none⟩) hbB).trans q3
      have l4 := (hbw.cell (p := ⟨bb, off + j * 5 + 4, none⟩) hbB).trans q4
      clear hbw q0 q1 q2 q3 q4
      obtain ⟨⟨i1, i2⟩, ⟨rA, rn, rc, rL⟩, lb, at_⟩ := x
      have hR : RdS w w.heap.size 3 rA rn rc (dartsV rL) := hrg.2
      replace hrn : rn ≤ 5864062014634 := hrn
      have hI : ∀ w', Kept Nil_ wo.drew w' → Calls Tryz.prog 82 #[.slice rA rn rc, .agg #[.int .i64 x1, .int .i64 x2, .int .i64 x3]] w' fun e w'' => e = .returned (.int .i64 (idxD rL (x1, x2, x3))) ∧ Below w'.heap.size w' w'' :=
        fun w' hk => rfindex_any rA rn rc rL (x1, x2, x3) w' ((hR.bl (bel_dr HB.out)).bl (hk.below (Nat.le_refl _) (fun _ _ h => h))) (by omega)
      have HI := Lib.hid hI
      have HE := Lib.hid (And.intro l0 l1)
      have cb := HX0.out.cell (i := 0) rfl
      clear hx hdr hg2 hpl hbB HG hrg hR hI l0 l1 l3 l4
      obtain ⟨ix, gix⟩ : ∃ z, idxD rL (x1, x2, x3) = z := ⟨_, rfl⟩
      rw [gix] at HI
      have Gix := Lib.hid gix
      clear gix
      go_upto_region 4 with fail
      clear cb
      have ldb : ∀ w', Kept Nil_ wo.drew w' → w'.cell? ⟨b0, 0, none⟩ = some (.slice (some ⟨bb, off, none⟩) n c) := fun w' h => h.nil_cell (HX0.out.dr.cell (i := 0) rfl)
      have ldx : ∀ w', Kept Nil_ wo.drew w' → w'.cell? ⟨b1, 0, none⟩ = some (.int .i64 x1) := fun w' h => h.nil_cell (HX1.out.dr.cell (i := 0) rfl)
      have ldy : ∀ w', Kept Nil_ wo.drew w' → w'.cell? ⟨b1, 1, none⟩ = some (.int .i64 x2) := fun w' h => h.nil_cell (HX1.out.dr.cell (i := 1) rfl)
      have ldz : ∀ w', Kept Nil_ wo.drew w' → w'.cell? ⟨b1, 2, none⟩ = some (.int .i64 x3) := fun w' h => h.nil_cell (HX1.out.dr.cell (i := 2) rfl)
      have ldr : ∀ w', Kept Nil_ wo.drew w' → w'.cell? ⟨bb, off + j * 5 + 2, none⟩ = some (.slice rA rn rc) := fun w' h => h.nil_cell (l2)
      clear l2
      refine wp_region_reg (Nil_) (by kernel_rfl) ?_
      refine opR_ 0 14 (v := ?_) ?_ ?_; rotate_left
      · intro w' hw'; go_simp; (try with_reducible rfl)
      simp only [st0_, st1_]
      refine opR_ 1 15 (v := ?_) ?_ ?_; rotate_left
      · intro w' hw'; go_simp; (try with_reducible rfl)
      simp only [st0_, st1_]
      refine opR_ 2 16 (v := ?_) ?_ ?_; rotate_left
      · intro w' hw'; go_simp; (try with_reducible rfl)
      simp only [st0_, st1_]
      refine opR_ 3 17 (v := ?_) ?_ ?_; rotate_left
      · intro w' hw'; go_simp; (try with_reducible rfl)
      simp only [st0_, st1_]
      refine opR_ 4 18 (v := ?_) ?_ ?_; rotate_left
      · intro w' hw'; go_simp; (try with_reducible rfl)
      simp only [st0_, st1_]
      refine opR_ 5 19 (v := ?_) ?_ ?_; rotate_left
      · intro w' hw'; go_simp; (try with_reducible rfl)
      simp only [st0_, st1_]
      refine opR_ 6 20 (v := ?_) ?_ ?_; rotate_left
      · intro w' hw'; go_simp; (try with_reducible rfl)
      simp only [st0_, st1_]
      refine opX_ 7 21 ?_
      apply Exists.intro
      apply And.intro
      · apply yr_call; rfl; rotate_left; intro w' hw'; exact HI.out w' hw'; intro w'; go_simp
      simp only [st0_, st1_]
      refine opR_ 8 22 (v := ?_) ?_ ?_; rotate_left
      · intro w' hw'; go_simp; (try with_reducible rfl)
      simp only [st0_, st1_]
      refine wpR_done (by kernel_rfl) ?_ _
      intro W3 hw3
      have HX03 := Lib.hid (HX0.out.dr.bl hw3)
      have HX13 := Lib.hid (HX1.out.dr.bl hw3)
      have HX23 := Lib.hid (HX2.out.dr.bl hw3)
      have HE3 : RowKit.Hid (Below wo.heap.size wo W3) := Lib.hid (bel_bl (bel_dr (Below.refl _ _)) hw3)
      have HB3 := Lib.hid (bel_bl HB.out HE3.out)
      clear hw3 ldb ldx ldy ldz ldr HB HX0 HX1 HX2 HI
      by_cases hmem : (x1, x2, x3) ∈ rL
      · have e1 : idxD rL (x1, x2, x3) = (rL.idxOf (x1, x2, x3) : Int) := by rw [idxD, if_pos hmem]
        have h0 : 0 ≤ ix := by rw [← Gix.out, e1]; omega
        have hG := HG2.out
        rw [atV_yes _ _ _ hmem] at hG
        simp only [Prod.mk.injEq] at hG
        obtain ⟨⟨rfl, rfl⟩, rfl⟩ := hG
        obtain ⟨l0, l1⟩ := HE.out
        have y0 := (HE3.out.cell (p := ⟨bb, off + j * 5, none⟩) Hbo.out).trans l0
        have y1 := (HE3.out.cell (p := ⟨bb, off + j * 5 + 1, none⟩) Hbo.out).trans l1
        have cb := HX03.out.cell (i := 0) rfl
        have f0 := HX23.out.free 0
        have f1 := HX23.out.free 1
        have k0 := HX23.out.cell (i := 0) rfl
        have k1 := HX23.out.cell (i := 1) rfl
        have HY := Lib.hid ((HX23.out.set_ 0 (.int .i64 i1)).set_ 1 (.int .i64 i2))
        have HBf := Lib.hid ((HB3.out.setCell (p := ⟨b2, 0, none⟩) Lb2.out (.int .i64 i1)).setCell (p := ⟨b2, 1, none⟩) Lb2.out (.int .i64 i2))
        clear HX23 HG2 HB3 HE HE3 l0 l1
        go_wp2
        exact ret_whole2 rfl b2 rfl rfl HY.out Tryz.underlying41 rfl (by kernel_rfl) rfl ⟨rfl, HBf.out⟩
      · have h0 : ¬ 0 ≤ ix := by rw [← Gix.out, show idxD rL (x1, x2, x3) = -1 by rw [idxD, if_neg hmem]]; omega
        have hG := HG2.out
        rw [atV_no _ _ _ hmem] at hG
        have HG4 := Lib.hid hG
        clear hG HG2 HE HE3
        go_wp2
        go_roundw
        case rel => exact ⟨j + 1, by omega, by go_num, HB3, HX03, HX13, HX23, HG4⟩
        case measure => simp [intOf]; omega
    · obtain rfl : n = j := by omega
      have hG := HG.out
      rw [List.drop_eq_nil_of_le (by have := Hl.out; omega)] at hG
      replace hG : (((0 : Int), (0 : Int)), false) = ((r1, r2), r3) := hG
      simp only [Prod.mk.injEq] at hG
      obtain ⟨⟨rfl, rfl⟩, rfl⟩ := hG
      have cb := HX0.out.cell (i := 0) rfl
      have f0 := HX2.out.free 0
      have f1 := HX2.out.free 1
      have k0 := HX2.out.cell (i := 0) rfl
      have k1 := HX2.out.cell (i := 1) rfl
      have HY := Lib.hid ((HX2.out.set_ 0 (.int .i64 0)).set_ 1 (.int .i64 0))
      have HBf := Lib.hid ((HB.out.setCell (p := ⟨b2, 0, none⟩) Lb2.out (.int .i64 0)).setCell (p := ⟨b2, 1, none⟩) Lb2.out (.int .i64 0))
      clear HG HX2
      go_wp2
      exact ret_whole2 rfl b2 rfl rfl HY.out Tryz.underlying41 rfl (by kernel_rfl) rfl ⟨rfl, HBf.out⟩
def timesV (Vs : List VC) (x : D) : Nat := (ringsOf Vs).count x
theorem timesV_next (Vs : List VC) (x : D) (j : Nat) (v : VC) (h : Vs[j]? = some v) : timesV (Vs.take (j + 1)) x = timesV (Vs.take j) x + v.2.1.2.2.2.count x := by
  have : Vs.take (j + 1) = Vs.take j ++ [v] := by rw [List.take_add_one, h]; rfl
  rw [timesV, timesV, this, ringsOf, List.flatMap_append, List.count_append]
  simp [ringsOf]
theorem count_next (L : List D) (x : D) (q : Nat) (d : D) (h : L[q]? = some d) : (L.take (q + 1)).count x = (L.take q).count x + if d = x then 1 else 0 := by
  have : L.take (q + 1) = L.take q ++ [d] := by rw [List.take_add_one, h]; rfl
  rw [this, List.count_append, List.count_singleton]
  simp
set_option maxRecDepth 100000 in
set_option maxHeartbeats 4000000 in
theorem rtimes_any (A : Option Addr) (n c : Nat) (Vs : List VC) (B : Option Addr) (m k : Nat) (Es : List EC) (x1 x2 x3 : Int) (w : World) (h : DgIn w A n c Vs B m k Es) (hn : n ≤ 10000) (hr : ∀ y ∈ Vs, y.2.1.2.1 ≤ 5864062014634) :
    Calls Tryz.prog 63 #[.agg #[.slice A n c, .slice B m k], .agg #[.int .i64 x1, .int .i64 x2, .int .i64 x3]] w fun e w' => e = .returned (.int .i64 (timesV Vs (x1, x2, x3) : Nat)) ∧ Below w.heap.size w w' := by
  have H := Lib.hid h.v
  have HRg := Lib.hid h.r
  have Hhr := Lib.hid hr
  have Hl := Lib.hid (h.v.rlen vC_len (by decide))
  obtain ⟨T, gT⟩ : ∃ z, timesV Vs (x1, x2, x3) = z := ⟨_, rfl⟩
  rw [gT]
  have GT := Lib.hid gT
  clear h hr gT
  go_enter Tryz.func63, Tryz.ntmps63
  go_wp2
  have hx0 : Whole ((w.alloc (.cells #[.slice A n c, .slice B m k] 25)).alloc (.cells #[.int .i64 x1, .int .i64 x2, .int .i64 x3] 49)) (w.heap.size) 25 [.slice A n c, .slice B m k] := ((Whole.new_ w 25 [.slice A n c, .slice B m k]).alloc (.cells #[.int .i64 x1, .int .i64 x2, .int .i64 x3] 49))
  have hx1 : Whole ((w.alloc (.cells #[.slice A n c, .slice B m k] 25)).alloc (.cells #[.int .i64 x1, .int .i64 x2, .int .i64 x3] 49)) (w.heap.size + 1) 49 [.int .i64 x1, .int .i64 x2, .int .i64 x3] := (Whole.new2 (w := (w.alloc (.cells #[.slice A n c, .slice B m k] 25))) (by simp))
  have hbl : Below w.heap.size w ((w.alloc (.cells #[.slice A n c, .slice B m k] 25)).alloc (.cells #[.int .i64 x1, .int .i64 x2, .int .i64 x3] 49)) := (bel_al (below1 w (.cells #[.slice A n c, .slice B m k] 25)) (.cells #[.int .i64 x1, .int .i64 x2, .int .i64 x3] 49))
  have hsz : w.heap.size + 1 + 1 ≤ (((w.alloc (.cells #[.slice A n c, .slice B m k] 25)).alloc (.cells #[.int .i64 x1, .int .i64 x2, .int .i64 x3] 49))).heap.size := by simp
  obtain ⟨W0, gW0⟩ : ∃ z, ((w.alloc (.cells #[.slice A n c, .slice B m k] 25)).alloc (.cells #[.int .i64 x1, .int .i64 x2, .int .i64 x3] 49)) = z := ⟨_, rfl⟩
  rw [gW0] at hx0 hx1 hbl hsz
  obtain ⟨b1, gb1⟩ : ∃ z, w.heap.size + 1 = z := ⟨_, rfl⟩
  rw [gb1] at hx1
  obtain ⟨b0, gb0⟩ : ∃ z, w.heap.size = z := ⟨_, rfl⟩
  rw [gb0] at hx0
  have HX0 := Lib.hid hx0
  have HX1 := Lib.hid hx1
  have HB0 := Lib.hid hbl
  have HS0 := Lib.hid hsz
  have Gb0 := Lib.hid gb0
  have Lb0 : RowKit.Hid (w.heap.size ≤ b0) := Lib.hid (by omega)
  have Gb1 := Lib.hid gb1
  have Lb1 : RowKit.Hid (w.heap.size ≤ b1) := Lib.hid (by omega)
  have N01 : RowKit.Hid (b0 ≠ b1) := Lib.hid (by omega)
  rw [gW0, gb1, gb0]
  clear gW0 hbl hsz hx0 hx1 gb0 gb1
  go_loopw [5, 6] (fun sn si wr => ∃ j t : Nat, j ≤ n ∧ t ≤ j * 5864062014634 ∧ si = .int .i64 j ∧ sn = .int .i64 t ∧ RowKit.Hid (Below w.heap.size w wr) ∧ RowKit.Hid (Whole wr b0 25 [.slice A n c, .slice B m k]) ∧ RowKit.Hid (Whole wr b1 49 [.int .i64 x1, .int .i64 x2, .int .i64 x3]) ∧ RowKit.Hid (timesV (Vs.take j) (x1, x2, x3) = t)) (fun _ si _ => n - (intOf si).toNat)
  case atStart => exact ⟨0, 0, by omega, by omega, rfl, rfl, HB0, HX0, HX1, Lib.hid rfl⟩
  case round =>
    clear HB0 HX0 HX1
    obtain ⟨j, t, hj, ht, rfl, rfl, HB, HX0, HX1, HG⟩ := hrel
    obtain ⟨wo, gwo⟩ : ∃ z, wr = z := ⟨_, rfl⟩
    rw [gwo] at HB HX0 HX1 ⊢
    clear gwo
    by_cases hjn : j < n
    · obtain ⟨x, hx⟩ : ∃ x, Vs[j]? = some x := ⟨_, List.getElem?_eq_getElem (by have := Hl.out; omega)⟩
      have HNx := Lib.hid (timesV_next Vs (x1, x2, x3) j x hx)
      have hrg := HRg.out x (List.mem_of_getElem? hx)
      have hrn := Hhr.out x (List.mem_of_getElem? hx)
      obtain ⟨bb, off, rfl, hbB, hpl⟩ := H.out.place vC_len (by decide) (by omega)
      have q2 := hpl j _ hx 2 _ rfl
      simp only [Addr.add_lit, Nat.add_zero] at q2
      obtain ⟨⟨i1, i2⟩, ⟨rA, rn, rc, rL⟩, lb, at_⟩ := x
      have hR0 : RdS w w.heap.size 3 rA rn rc (dartsV rL) := hrg.2
      replace q2 : w.cell? ⟨bb, off + j * 5 + 2, none⟩ = some (.slice rA rn rc) := q2
      rw [dartsV_rows] at hR0
      have HR := Lib.hid hR0
      have Hrl := Lib.hid (hR0.rlen dC_len (by decide))
      replace hrn : rn ≤ 5864062014634 := hrn
      replace HNx : RowKit.Hid (timesV (Vs.take (j + 1)) (x1, x2, x3) = timesV (Vs.take j) (x1, x2, x3) + rL.count (x1, x2, x3)) := HNx
      have Q2 := Lib.hid q2
      have HbB := Lib.hid hbB
      have cb := HX0.out.cell (i := 0) rfl
      clear hx hpl hbB hrg hR0 q2
      go_wp2
      clear cb
      go_loopw [5, 7] (fun sn si wr => ∃ q t' : Nat, q ≤ rn ∧ t' ≤ t + q ∧ si = .int .i64 q ∧ sn = .int .i64 t' ∧ RowKit.Hid (Below w.heap.size w wr) ∧ RowKit.Hid (Whole wr b0 25 [.slice (some ⟨bb, off, none⟩) n c, .slice B m k]) ∧ RowKit.Hid (Whole wr b1 49 [.int .i64 x1, .int .i64 x2, .int .i64 x3]) ∧ RowKit.Hid (t + (rL.take q).count (x1, x2, x3) = t')) (fun _ si _ => rn - (intOf si).toNat)
      case atStart => exact ⟨0, t, by omega, by omega, rfl, rfl, HB, HX0, HX1, Lib.hid (by simp)⟩
      case round =>
        clear HB HX0 HX1
        obtain ⟨q, t', hq, ht', rfl, rfl, HZ, HY0, HY1, HI⟩ := hrel
        obtain ⟨wi, gwi⟩ : ∃ z, wr = z := ⟨_, rfl⟩
        rw [gwi] at HZ HY0 HY1 ⊢
        clear gwi
        have y2 := (HZ.out.cell (p := ⟨bb, off + j * 5 + 2, none⟩) HbB.out).trans Q2.out
        have cb := HY0.out.cell (i := 0) rfl
        by_cases hqn : q < rn
        · obtain ⟨d, hd⟩ : ∃ d, rL[q]? = some d := ⟨_, List.getElem?_eq_getElem (by have := Hrl.out; omega)⟩
          have hcn := count_next rL (x1, x2, x3) q d hd
          obtain ⟨rb, ro, rfl, hrB, hrpl⟩ := HR.out.place dC_len (by decide) (by omega)
          have p0 := hrpl q _ hd 0 _ rfl
          have p1 := hrpl q _ hd 1 _ rfl
          have p2 := hrpl q _ hd 2 _ rfl
          simp only [Addr.add_lit, Nat.add_zero] at p0 p1 p2
          have e0 := (HZ.out.cell (p := ⟨rb, ro + q * 3, none⟩) hrB).trans p0
          have e1 := (HZ.out.cell (p := ⟨rb, ro + q * 3 + 1, none⟩) hrB).trans p1
          have e2 := (HZ.out.cell (p := ⟨rb, ro + q * 3 + 2, none⟩) hrB).trans p2
          obtain ⟨d1, d2, d3⟩ := d
          have HCn := Lib.hid hcn
          clear hd hcn hrB hrpl p0 p1 p2
          go_upto_region 8 with fail
          clear cb
          have ldb : ∀ w', Kept Nil_ wi.drew w' → w'.cell? ⟨b0, 0, none⟩ = some (.slice (some ⟨bb, off, none⟩) n c) := fun w' h => h.nil_cell (HY0.out.dr.cell (i := 0) rfl)
          have ldx : ∀ w', Kept Nil_ wi.drew w' → w'.cell? ⟨b1, 0, none⟩ = some (.int .i64 x1) := fun w' h => h.nil_cell (HY1.out.dr.cell (i := 0) rfl)
          have ldy : ∀ w', Kept Nil_ wi.drew w' → w'.cell? ⟨b1, 1, none⟩ = some (.int .i64 x2) := fun w' h => h.nil_cell (HY1.out.dr.cell (i := 1) rfl)
          have ldz : ∀ w', Kept Nil_ wi.drew w' → w'.cell? ⟨b1, 2, none⟩ = some (.int .i64 x3) := fun w' h => h.nil_cell (HY1.out.dr.cell (i := 2) rfl)
          have ldr : ∀ w', Kept Nil_ wi.drew w' → w'.cell? ⟨bb, off + j * 5 + 2, none⟩ = some (.slice (some ⟨rb, ro, none⟩) rn rc) := fun w' h => h.nil_cell (y2)
          have ld0 : ∀ w', Kept Nil_ wi.drew w' → w'.cell? ⟨rb, ro + q * 3, none⟩ = some (.int .i64 d1) := fun w' h => h.nil_cell (e0)
          have ld1 : ∀ w', Kept Nil_ wi.drew w' → w'.cell? ⟨rb, ro + q * 3 + 1, none⟩ = some (.int .i64 d2) := fun w' h => h.nil_cell (e1)
          have ld2 : ∀ w', Kept Nil_ wi.drew w' → w'.cell? ⟨rb, ro + q * 3 + 2, none⟩ = some (.int .i64 d3) := fun w' h => h.nil_cell (e2)
          clear y2 e0 e1 e2
          have heq := fun W => eq_dart_run (d1, d2, d3) (x1, x2, x3) W
          obtain ⟨bq, gbq⟩ : ∃ z, decide ((d1, d2, d3) = (x1, x2, x3)) = z := ⟨_, rfl⟩
          rw [gbq] at heq
          have Gbq := Lib.hid gbq
          clear gbq
          refine wp_region_reg (Nil_) (by kernel_rfl) ?_
          refine opR_ 0 26 (v := ?_) ?_ ?_; rotate_left
          · intro w' hw'; go_simp; (try with_reducible rfl)
          simp only [st0_, st1_]
          refine opR_ 1 27 (v := ?_) ?_ ?_; rotate_left
          · intro w' hw'; go_simp; (try with_reducible rfl)
          simp only [st0_, st1_]
          refine opR_ 2 28 (v := ?_) ?_ ?_; rotate_left
          · intro w' hw'; go_simp; (try with_reducible rfl)
          simp only [st0_, st1_]
          refine opR_ 3 29 (v := ?_) ?_ ?_; rotate_left
          · intro w' hw'; go_simp; (try with_reducible rfl)
          simp only [st0_, st1_]
          refine opR_ 4 30 (v := ?_) ?_ ?_; rotate_left
          · intro w' hw'; go_simp; (try with_reducible rfl)
          simp only [st0_, st1_]
          refine opR_ 5 31 (v := ?_) ?_ ?_; rotate_left
          · intro w' hw'; go_simp; (try with_reducible rfl)
          simp only [st0_, st1_]
          refine opR_ 6 32 (v := ?_) ?_ ?_; rotate_left
          · intro w' hw'; go_simp; (try with_reducible rfl)
          simp only [st0_, st1_]
          refine opR_ 7 33 (v := ?_) ?_ ?_; rotate_left
          · intro w' hw'; go_simp; (try with_reducible rfl)
          simp only [st0_, st1_]
          refine opR_ 8 34 (v := ?_) ?_ ?_; rotate_left
          · intro w' hw'; go_simp; (try with_reducible rfl)
          simp only [st0_, st1_]
          refine opR_ 9 35 (v := ?_) ?_ ?_; rotate_left
          · intro w' hw'; go_simp; (try with_reducible rfl)
          simp only [st0_, st1_]
          refine opX_ 10 36 ?_
          apply Exists.intro
          apply And.intro
          · exact yr_run (by rfl) (fun w' hw' => exec_binop_agg .eql 49 (.tmp 34) (.tmp 35) 49 rfl rfl rfl (by kernel_rfl) (heq w'))
          simp only [st0_, st1_]
          refine wpR_done (by kernel_rfl) ?_ _
          intro W3 hw3
          have HX03 := Lib.hid (HY0.out.dr.bl hw3)
          have HX13 := Lib.hid (HY1.out.dr.bl hw3)
          have HB3 := Lib.hid (bel_bl (bel_dr HZ.out) hw3)
          clear hw3 ldb ldx ldy ldz ldr ld0 ld1 ld2 HZ HY0 HY1 heq
          cases bq with
          | true =>
            have HI3 : RowKit.Hid (t + (rL.take (q + 1)).count (x1, x2, x3) = t' + 1) := Lib.hid (by
              have h1 := HCn.out
              rw [if_pos (of_decide_eq_true Gbq.out)] at h1
              have h2 := HI.out
              omega)
            clear HI
            go_wp2
            go_roundw
            case rel => exact ⟨q + 1, t' + 1, by omega, by omega, by go_num, by go_num, HB3, HX03, HX13, HI3⟩
            case measure => simp [intOf]; omega
          | false =>
            have HI3 : RowKit.Hid (t + (rL.take (q + 1)).count (x1, x2, x3) = t') := Lib.hid (by
              have h1 := HCn.out
              rw [if_neg (of_decide_eq_false Gbq.out)] at h1
              have h2 := HI.out
              omega)
            clear HI
            go_wp2
            go_roundw
            case rel => exact ⟨q + 1, t', by omega, by omega, by go_num, by first | rfl | go_num, HB3, HX03, HX13, HI3⟩
            case measure => simp [intOf]; omega
        · obtain rfl : rn = q := by omega
          have HG3 : RowKit.Hid (timesV (Vs.take (j + 1)) (x1, x2, x3) = t') := Lib.hid (by
            rw [HNx.out, HG.out]
            have h1 := HI.out
            rw [List.take_of_length_le (by have := Hrl.out; omega)] at h1
            exact h1)
          clear HI HG
          go_wp2
          go_roundw
          case rel => exact ⟨j + 1, t', by omega, by omega, by go_num, rfl, HZ, HY0, HY1, HG3⟩
          case measure => simp [intOf]; omega
    · obtain rfl : n = j := by omega
      have hT : T = t := by
        have h1 := HG.out
        rw [List.take_of_length_le (by have := Hl.out; omega), GT.out] at h1
        exact h1
      subst hT
      have cb := HX0.out.cell (i := 0) rfl
      clear HG GT
      go_wp2
      go_ret
      exact ⟨rfl, HB.out⟩
end Go.Proofs.YtmkflebkifbpfaaGreat
/- The document's rise, IDs, Names. -/
namespace Go.Proofs.YtmkflebkifbpfaaGreat
open Go.RowKit
set_option maxRecDepth 100000 in
set_option maxHeartbeats 4000000 in
theorem rrise_any (A : Option Addr) (n c : Nat) (L : List (Int × Int)) (w : World) (h : RdS w w.heap.size 2 A n c (rowsV idC L)) (hn : n ≤ 1000000) :
    Calls Tryz.prog 38 #[.slice A n c] w fun e w' => e = .returned (.bool (riseF none L)) ∧ Below w.heap.size w w' := by
  have H := Lib.hid h
  have Hl := Lib.hid (h.rlen idC_len (by decide))
  obtain ⟨b, gb⟩ : ∃ z, riseF none L = z := ⟨_, rfl⟩
  rw [gb]
  have HG0 := Lib.hid gb
  clear h gb
  go_enter Tryz.func38, Tryz.ntmps38
  go_wp2
  go_loopw [3] (fun si wr => ∃ (j : Nat) (o : Option (Int × Int)), j ≤ n ∧ si = .int .i64 j ∧ RowKit.Hid (Below w.heap.size w wr) ∧ RowKit.Hid ((o = none ↔ j = 0) ∧ ∀ y, o = some y → L[j - 1]? = some y) ∧ RowKit.Hid (riseF o (L.drop j) = b)) (fun si _ => n - (intOf si).toNat)
  case atStart => exact ⟨0, none, by omega, rfl, Lib.hid (Below.refl _ _), Lib.hid ⟨by simp, fun y h => (by cases h)⟩, HG0⟩
  case round =>
    clear HG0
    obtain ⟨j, o, hj, rfl, HB, HO, HG⟩ := hrel
    obtain ⟨wo, gwo⟩ : ∃ z, wr = z := ⟨_, rfl⟩
    rw [gwo] at HB ⊢
    clear gwo
    by_cases hjn : j < n
    · obtain ⟨x, hx⟩ : ∃ x, L[j]? = some x := ⟨_, List.getElem?_eq_getElem (by have := Hl.out; omega)⟩
      have hdr : L.drop j = x :: L.drop (j + 1) := by
        rw [List.drop_eq_getElem_cons (List.getElem?_eq_some_iff.1 hx).1, (List.getElem?_eq_some_iff.1 hx).2]
      have hg2 := HG.out
      rw [hdr] at hg2
      have HG2 := Lib.hid hg2
      have HXo : RowKit.Hid ((some x = none ↔ j + 1 = 0) ∧ ∀ y, some x = some y → L[j + 1 - 1]? = some y) := Lib.hid ⟨by simp, fun y e => by rw [← e]; exact hx⟩
      obtain ⟨bb, off, rfl, hbB, hpl⟩ := H.out.place idC_len (by decide) (by omega)
      have HbB := Lib.hid hbB
      have HPL := Lib.hid hpl
      have hbw := HB.out
      have q0 := hpl j _ hx 0 _ rfl
      have q1 := hpl j _ hx 1 _ rfl
      simp only [Addr.add_lit, Nat.add_zero] at q0 q1
      have l0 := (hbw.cell (p := ⟨bb, off + j * 2, none⟩) hbB).trans q0
      have l1 := (hbw.cell (p := ⟨bb, off + j * 2 + 1, none⟩) hbB).trans q1
      clear hbw
      obtain ⟨i1, i2⟩ := x
      have Q := Lib.hid (And.intro q0 q1)
      clear hx hdr hg2 hbB hpl q0 q1 HG
      go_wp2_with fail
      refine (rmay_any i1 i2 _).mono ?_
      rintro e W2 ⟨rfl, hb⟩
      have HB2 := Lib.hid (bel_bl HB.out hb)
      clear hb l0 l1 HB
      obtain ⟨bm, gbm⟩ : ∃ z, mayI i1 i2 = z := ⟨_, rfl⟩
      rw [gbm]
      have Gbm := Lib.hid gbm
      clear gbm
      cases bm with
      | false =>
        have hb0 : b = false := by
          rw [← HG2.out]; simp [riseF, Gbm.out]
        subst hb0
        go_upto_region 5 with fail
        refine wp_region_reg (Nil_) (by kernel_rfl) ?_
        refine opR_ 0 16 (v := ?_) ?_ ?_; rotate_left
        · intro w' hw'; go_simp; (try with_reducible rfl)
        simp only [st0_, st1_]
        refine opR_ 1 17 (v := ?_) ?_ ?_; rotate_left
        · intro w' hw'; go_simp; (try with_reducible rfl)
        simp only [st0_, st1_]
        refine opR_ 2 18 (v := ?_) ?_ ?_; rotate_left
        · intro w' hw'; go_simp; (try with_reducible rfl)
        simp only [st0_, st1_]
        refine opX_ 3 19 ?_
        apply Exists.intro
        apply And.intro
        · exact yr_skip (by rfl)
        simp only [st0_, st1_]
        refine opX_ 4 20 ?_
        apply Exists.intro
        apply And.intro
        · exact yr_skip (by rfl)
        simp only [st0_, st1_]
        refine opX_ 5 21 ?_
        apply Exists.intro
        apply And.intro
        · exact yr_skip (by rfl)
        simp only [st0_, st1_]
        refine opX_ 6 22 ?_
        apply Exists.intro
        apply And.intro
        · exact yr_skip (by rfl)
        simp only [st0_, st1_]
        refine opX_ 7 23 ?_
        apply Exists.intro
        apply And.intro
        · exact yr_skip (by rfl)
        simp only [st0_, st1_]
        refine opX_ 8 24 ?_
        apply Exists.intro
        apply And.intro
        · exact yr_skip (by rfl)
        simp only [st0_, st1_]
        refine opX_ 9 25 ?_
        apply Exists.intro
        apply And.intro
        · exact yr_skip (by rfl)
        simp only [st0_, st1_]
        refine opX_ 10 26 ?_
        apply Exists.intro
        apply And.intro
        · exact yr_skip (by rfl)
        simp only [st0_, st1_]
        refine opX_ 11 27 ?_
        apply Exists.intro
        apply And.intro
        · exact yr_skip (by rfl)
        simp only [st0_, st1_]
        refine opX_ 12 28 ?_
        apply Exists.intro
        apply And.intro
        · exact yr_skip (by rfl)
        simp only [st0_, st1_]
        refine opX_ 13 29 ?_
        apply Exists.intro
        apply And.intro
        · exact yr_skip (by rfl)
        simp only [st0_, st1_]
        refine opX_ 14 30 ?_
        apply Exists.intro
        apply And.intro
        · exact yr_skip (by rfl)
        simp only [st0_, st1_]
        refine opX_ 15 31 ?_
        apply Exists.intro
        apply And.intro
        · exact yr_skip (by rfl)
        simp only [st0_, st1_]
        refine opX_ 16 32 ?_
        apply Exists.intro
        apply And.intro
        · exact yr_skip (by rfl)
        simp only [st0_, st1_]
        refine opX_ 17 33 ?_
        apply Exists.intro
        apply And.intro
        · exact yr_skip (by rfl)
        simp only [st0_, st1_]
        refine opR_ 18 34 (v := ?_) ?_ ?_; rotate_left
        · intro w' hw'; go_simp; (try with_reducible rfl)
        simp only [st0_, st1_]
        refine wpR_done (by kernel_rfl) ?_ _
        intro W3 hw3
        have HB3 := Lib.hid (bel_bl (bel_dr HB2.out) hw3)
        clear hw3
        go_wp2
        go_ret
        exact ⟨rfl, HB3.out⟩
      | true =>
        rcases Nat.eq_zero_or_pos j with rfl | hj0
        · obtain rfl : o = none := HO.out.1.2 rfl
          have HG3 : RowKit.Hid (riseF (some (i1, i2)) (L.drop (0 + 1)) = b) := Lib.hid (by rw [← HG2.out]; simp [riseF, Gbm.out])
          rw [show ((0 : Nat) : Int) = 0 from rfl]
          go_upto_region 5 with fail
          refine wp_region_reg (Nil_) (by kernel_rfl) ?_
          refine opR_ 0 16 (v := ?_) ?_ ?_; rotate_left
          · intro w' hw'; go_simp; (try with_reducible rfl)
          simp only [st0_, st1_]
          refine opR_ 1 17 (v := ?_) ?_ ?_; rotate_left
          · intro w' hw'; go_simp; (try with_reducible rfl)
          simp only [st0_, st1_]
          refine opR_ 2 18 (v := ?_) ?_ ?_; rotate_left
          · intro w' hw'; go_simp; (try with_reducible rfl)
          simp only [st0_, st1_]
          refine opR_ 3 19 (v := ?_) ?_ ?_; rotate_left
          · intro w' hw'; go_simp; (try with_reducible rfl)
          simp only [st0_, st1_]
          refine opR_ 4 20 (v := ?_) ?_ ?_; rotate_left
          · intro w' hw'; go_simp; (try with_reducible rfl)
          simp only [st0_, st1_]
          refine opR_ 5 21 (v := ?_) ?_ ?_; rotate_left
          · intro w' hw'; go_simp; (try with_reducible rfl)
          simp only [st0_, st1_]
          refine opX_ 6 22 ?_
          apply Exists.intro
          apply And.intro
          · exact yr_skip (by rfl)
          simp only [st0_, st1_]
          refine opX_ 7 23 ?_
          apply Exists.intro
          apply And.intro
          · exact yr_skip (by rfl)
          simp only [st0_, st1_]
          refine opX_ 8 24 ?_
          apply Exists.intro
          apply And.intro
          · exact yr_skip (by rfl)
          simp only [st0_, st1_]
          refine opX_ 9 25 ?_
          apply Exists.intro
          apply And.intro
          · exact yr_skip (by rfl)
          simp only [st0_, st1_]
          refine opX_ 10 26 ?_
          apply Exists.intro
          apply And.intro
          · exact yr_skip (by rfl)
          simp only [st0_, st1_]
          refine opX_ 11 27 ?_
          apply Exists.intro
          apply And.intro
          · exact yr_skip (by rfl)
          simp only [st0_, st1_]
          refine opX_ 12 28 ?_
          apply Exists.intro
          apply And.intro
          · exact yr_skip (by rfl)
          simp only [st0_, st1_]
          refine opX_ 13 29 ?_
          apply Exists.intro
          apply And.intro
          · exact yr_skip (by rfl)
          simp only [st0_, st1_]
          refine opX_ 14 30 ?_
          apply Exists.intro
          apply And.intro
          · exact yr_skip (by rfl)
          simp only [st0_, st1_]
          refine opX_ 15 31 ?_
          apply Exists.intro
          apply And.intro
          · exact yr_skip (by rfl)
          simp only [st0_, st1_]
          refine opX_ 16 32 ?_
          apply Exists.intro
          apply And.intro
          · exact yr_skip (by rfl)
          simp only [st0_, st1_]
          refine opR_ 17 33 (v := ?_) ?_ ?_; rotate_left
          · intro w' hw'; go_simp; (try with_reducible rfl)
          simp only [st0_, st1_]
          refine opR_ 18 34 (v := ?_) ?_ ?_; rotate_left
          · intro w' hw'; go_simp; (try with_reducible rfl)
          simp only [st0_, st1_]
          refine wpR_done (by kernel_rfl) ?_ _
          intro W3 hw3
          have HB3 := Lib.hid (bel_bl (bel_dr HB2.out) hw3)
          clear hw3 HG2 HO
          go_wp2
          go_roundw
          case rel => exact ⟨0 + 1, some (i1, i2), by omega, by go_num, HB3, HXo, HG3⟩
          case measure => simp [intOf]; omega
        · obtain ⟨y, rfl⟩ : ∃ y, o = some y := by
            cases o with
            | none => have := HO.out.1.1 rfl; omega
            | some y => exact ⟨y, rfl⟩
          have hy := HO.out.2 y rfl
          obtain ⟨j1, rfl⟩ : ∃ j1, j = j1 + 1 := ⟨j - 1, by omega⟩
          rw [Nat.add_sub_cancel] at hy
          obtain ⟨y1, y2⟩ := y
          have p0 := HPL.out j1 _ hy 0 _ rfl
          have p1 := HPL.out j1 _ hy 1 _ rfl
          simp only [Addr.add_lit, Nat.add_zero] at p0 p1
          obtain ⟨jj, gjj⟩ : ∃ z, j1 + 1 = z := ⟨_, rfl⟩
          rw [gjj] at Q HXo HG2 ⊢
          have hsub : IntKind.i64.wrap ((jj : Int) - 1) = (j1 : Int) := by rw [← gjj]; exact (IntWalk.i64_in _ (by omega)).trans (by omega)
          have hj1n : j1 < n := by omega
          have hjj0 : 0 < jj := by omega
          have hjjn : jj < n := by omega
          have hjI : decide ((0 : Int) < (jj : Int)) = true := decide_eq_true (by omega)
          have Gjj := Lib.hid gjj
          clear gjj hj hjn hj0 HO hy
          obtain ⟨ox, gox⟩ : ∃ z, ordI y1 y2 i1 i2 = z := ⟨_, rfl⟩
          have Gox := Lib.hid gox
          have hOr := Lib.hid (fun w' => rorder_any y1 y2 i1 i2 w')
          rw [gox] at hOr
          clear gox
          go_upto_region 5 with fail
          have ldx0 : ∀ w', Kept Nil_ W2.drew w' → w'.cell? ⟨bb, off + jj * 2, none⟩ = some (.int .i64 i1) := fun w' h => h.nil_cell ((HB2.out.drew.cell (p := ⟨bb, off + jj * 2, none⟩) HbB.out).trans Q.out.1)
          have ldx1 : ∀ w', Kept Nil_ W2.drew w' → w'.cell? ⟨bb, off + jj * 2 + 1, none⟩ = some (.int .i64 i2) := fun w' h => h.nil_cell ((HB2.out.drew.cell (p := ⟨bb, off + jj * 2 + 1, none⟩) HbB.out).trans Q.out.2)
          have ldy0 : ∀ w', Kept Nil_ W2.drew w' → w'.cell? ⟨bb, off + j1 * 2, none⟩ = some (.int .i64 y1) := fun w' h => h.nil_cell ((HB2.out.drew.cell (p := ⟨bb, off + j1 * 2, none⟩) HbB.out).trans p0)
          have ldy1 : ∀ w', Kept Nil_ W2.drew w' → w'.cell? ⟨bb, off + j1 * 2 + 1, none⟩ = some (.int .i64 y2) := fun w' h => h.nil_cell ((HB2.out.drew.cell (p := ⟨bb, off + j1 * 2 + 1, none⟩) HbB.out).trans p1)
          clear p0 p1 Q
          refine wp_region_reg (Nil_) (by kernel_rfl) ?_
          refine opR_ 0 16 (v := ?_) ?_ ?_; rotate_left
          · intro w' hw'; go_simp; (try with_reducible rfl)
          simp only [st0_, st1_]
          refine opR_ 1 17 (v := ?_) ?_ ?_; rotate_left
          · intro w' hw'; go_simp; (try with_reducible rfl)
          simp only [st0_, st1_]
          refine opR_ 2 18 (v := ?_) ?_ ?_; rotate_left
          · intro w' hw'; go_simp; (try with_reducible rfl)
          simp only [st0_, st1_]
          refine opR_ 3 19 (v := ?_) ?_ ?_; rotate_left
          · intro w' hw'; go_simp; (try with_reducible rfl)
          simp only [st0_, st1_]
          refine opR_ 4 20 (v := ?_) ?_ ?_; rotate_left
          · intro w' hw'; go_simp; (try with_reducible rfl)
          simp only [st0_, st1_]
          refine opR_ 5 21 (v := ?_) ?_ ?_; rotate_left
          · intro w' hw'; go_simp; (try with_reducible rfl)
          simp only [st0_, st1_]
          refine opR_ 6 22 (v := ?_) ?_ ?_; rotate_left
          · intro w' hw'; go_simp; (try with_reducible rfl)
          simp only [st0_, st1_]
          refine opR_ 7 23 (v := ?_) ?_ ?_; rotate_left
          · intro w' hw'; go_simp; (try with_reducible rfl)
          simp only [st0_, st1_]
          refine opR_ 8 24 (v := ?_) ?_ ?_; rotate_left
          · intro w' hw'; go_simp; (try with_reducible rfl)
          simp only [st0_, st1_]
          refine opR_ 9 25 (v := ?_) ?_ ?_; rotate_left
          · intro w' hw'; go_simp; (try with_reducible rfl)
          simp only [st0_, st1_]
          refine opR_ 10 26 (v := ?_) ?_ ?_; rotate_left
          · intro w' hw'; go_simp; (try with_reducible rfl)
          simp only [st0_, st1_]
          refine opR_ 11 27 (v := ?_) ?_ ?_; rotate_left
          · intro w' hw'; go_simp; (try with_reducible rfl)
          simp only [st0_, st1_]
          refine opR_ 12 28 (v := ?_) ?_ ?_; rotate_left
          · intro w' hw'; go_simp; (try with_reducible rfl)
          simp only [st0_, st1_]
          refine opR_ 13 29 (v := ?_) ?_ ?_; rotate_left
          · intro w' hw'; go_simp; (try with_reducible rfl)
          simp only [st0_, st1_]
          refine opR_ 14 30 (v := ?_) ?_ ?_; rotate_left
          · intro w' hw'; go_simp; (try with_reducible rfl)
          simp only [st0_, st1_]
          refine opX_ 15 31 ?_
          apply Exists.intro
          apply And.intro
          · apply yr_call; rfl; rotate_left; intro w' hw'; exact hOr.out w'; intro w'; go_simp
          simp only [st0_, st1_]
          refine opR_ 16 32 (v := ?_) ?_ ?_; rotate_left
          · intro w' hw'; go_simp; (try with_reducible rfl)
          simp only [st0_, st1_]
          refine opR_ 17 33 (v := ?_) ?_ ?_; rotate_left
          · intro w' hw'; go_simp; (try with_reducible rfl)
          simp only [st0_, st1_]
          refine opR_ 18 34 (v := ?_) ?_ ?_; rotate_left
          · intro w' hw'; go_simp; (try with_reducible rfl)
          simp only [st0_, st1_]
          refine wpR_done (by kernel_rfl) ?_ _
          intro W3 hw3
          have HB3 := Lib.hid (bel_bl (bel_dr HB2.out) hw3)
          clear hw3 ldx0 ldx1 ldy0 ldy1 hOr hsub
          by_cases hox : 0 ≤ ox
          · have hb0 : b = false := by
              rw [← HG2.out]
              have : ¬ ordI y1 y2 i1 i2 < 0 := by rw [Gox.out]; omega
              simp [riseF, Gbm.out, this]
            subst hb0
            clear HG2
            go_wp2
            go_ret
            exact ⟨rfl, HB3.out⟩
          · have HG3 : RowKit.Hid (riseF (some (i1, i2)) (L.drop (jj + 1)) = b) := Lib.hid (by
              rw [← HG2.out]
              have : ordI y1 y2 i1 i2 < 0 := by rw [Gox.out]; omega
              simp [riseF, Gbm.out, this])
            clear HG2
            go_wp2
            go_roundw
            case rel => exact ⟨jj + 1, some (i1, i2), by omega, by go_num, HB3, HXo, HG3⟩
            case measure => have := Gjj.out; simp [intOf]; omega
    · obtain rfl : n = j := by omega
      have hq : b = true := by
        rw [← HG.out, List.drop_eq_nil_of_le (by have := Hl.out; omega)]
        rfl
      subst hq
      clear HG HO
      go_wp2
      go_ret
      exact ⟨rfl, HB.out⟩
theorem neq_id (x y : Int × Int) (W : World) : (binOp .neq 41 (.agg (idC x).toArray) (.agg (idC y).toArray)).run Tryz.prog W = .ok (.bool (!decide (x = y))) W := by
  obtain ⟨a1, a2⟩ := x
  obtain ⟨b1, b2⟩ := y
  by_cases h1 : a1 = b1 <;> by_cases h2 : a2 = b2 <;> simp [go_sem, idC, h1, h2]
set_option maxRecDepth 100000 in
set_option maxHeartbeats 4000000 in
theorem rnames_any (A : Option Addr) (n c : Nat) (Vs : List VC) (B : Option Addr) (m k : Nat) (Es : List EC) (w : World) (h : DgIn w A n c Vs B m k Es) (hn : n ≤ 1000000) (hm : m ≤ 1000000) :
    Calls Tryz.prog 37 #[.agg #[.slice A n c, .slice B m k]] w fun e w' => ∃ A' c', e = .returned (.slice A' (n + m) c') ∧ Ow w (w.heap.size + 1) 41 2 (.slice A' (n + m) c') (n + m) (rowsV idC (Vs.map (·.1) ++ Es.map (·.1))) w' := by
  have HV := Lib.hid h.v
  have HE := Lib.hid h.e
  have Hlv := Lib.hid (h.v.rlen vC_len (by decide))
  have Hle := Lib.hid (h.e.rlen eC_len (by decide))
  obtain ⟨i0, hi, hz0, hz1, hz2⟩ := info_partsD info_idD
  clear h
  go_enter Tryz.func37, Tryz.ntmps37
  go_wp2
  have hx0 := (Whole.new_ w 25 [.slice A n c, .slice B m k]).alloc (.cells #[] 41)
  have hbl := below1 w (.cells #[.slice A n c, .slice B m k] 25)
  have hO0 : Ow w (w.heap.size + 1) 41 2 (.slice (some ⟨(w.alloc (.cells #[.slice A n c, .slice B m k] 25)).heap.size, 0, none⟩) 0 0) 0 [] ((w.alloc (.cells #[.slice A n c, .slice B m k] 25)).alloc (.cells #[] 41)) := Ow.new_ (cs := #[]) hbl (by omega) (by simp) (Nat.zero_le _) rfl
  rw [show (w.alloc (.cells #[.slice A n c, .slice B m k] 25)).heap.size = w.heap.size + 1 by simp] at hO0
  obtain ⟨W0, gW0⟩ : ∃ z, (w.alloc (.cells #[.slice A n c, .slice B m k] 25)).alloc (.cells #[] 41) = z := ⟨_, rfl⟩
  rw [gW0] at hx0 hO0
  have HO0 : RowKit.Hid (Ow w (w.heap.size + 1) 41 2 (.slice (some ⟨w.heap.size + 1, 0, none⟩) 0 0) 0 (rowsV idC ([] ++ (Vs.take 0).map (·.1))) W0) := Lib.hid hO0
  obtain ⟨B2, gB2⟩ : ∃ z, w.heap.size + 1 = z := ⟨_, rfl⟩
  obtain ⟨b0, gb0⟩ : ∃ z, w.heap.size = z := ⟨_, rfl⟩
  have h0B : b0 < B2 := by omega
  rw [gB2] at HO0
  rw [gb0] at hx0
  have HX0 := Lib.hid hx0
  have GB2 := Lib.hid gB2
  rw [gW0, gB2, gb0]
  clear hx0 hbl hO0 gW0 gB2 gb0
  go_loopw [3, 4] (fun v si wr => ∃ j : Nat, j ≤ n ∧ si = .int .i64 j ∧ RowKit.Hid (Ow w B2 41 2 v j (rowsV idC ([] ++ (Vs.take j).map (·.1))) wr) ∧ RowKit.Hid (Whole wr b0 25 [.slice A n c, .slice B m k])) (fun _ si _ => n - (intOf si).toNat)
  case atStart => exact ⟨0, by omega, rfl, HO0, HX0⟩
  case round =>
    clear HO0 HX0
    obtain ⟨j, hj, rfl, HO, HX⟩ := hrel
    obtain ⟨wo, gwo⟩ : ∃ z, wr = z := ⟨_, rfl⟩
    rw [gwo] at HO HX ⊢
    clear gwo
    have cb := HX.out.cell (i := 0) rfl
    by_cases hjn : j < n
    · obtain ⟨x, hx⟩ : ∃ x, Vs[j]? = some x := ⟨_, List.getElem?_eq_getElem (by have := Hlv.out; omega)⟩
      obtain ⟨bb, off, rfl, hbB, hpl⟩ := HV.out.place vC_len (by decide) (by omega)
      have hbw := HO.out.below
      have q0 := hpl j _ hx 0 _ rfl
      have q1 := hpl j _ hx 1 _ rfl
      have q2 := hpl j _ hx 2 _ rfl
      have q3 := hpl j _ hx 3 _ rfl
      have q4 := hpl j _ hx 4 _ rfl
      simp only [Addr.add_lit, Nat.add_zero] at q0 q1 q2 q3 q4
      have l0 := (hbw.cell (p := ⟨bb, off + j * 5, none⟩) hbB).trans q0
      have l1 := (hbw.cell (p := ⟨bb, off + j * 5 + 1, none⟩) hbB).trans q1
      have l2 := (hbw.cell (p := ⟨bb, off + j * 5 + 2, none⟩) hbB).trans q2
      have l3 := (hbw.cell (p := ⟨bb, off + j * 5 + 3, none⟩) hbB).trans q3
      have l4 := (hbw.cell (p := ⟨bb, off + j * 5 + 4, none⟩) hbB).trans q4
      have HNx := Lib.hid (names_next (·.1) [] Vs j x hx)
      obtain ⟨⟨i1, i2⟩, ⟨rA, rn, rc, rL⟩, lb, at_⟩ := x
      clear hx hpl q0 q1 q2 q3 q4 hbB hbw
      go_wp2_with (first
        | (at_builtin
           refine wpList_push2 rfl (.tmp 14) (.tmp 21) _ rfl _ 41 i0 _ 2 16 Tryz.underlying73 hi hz0 hz1 hz2 rfl (by decide) _ _ _ rfl (by exact HO.out.up (below1 _ _)) _ (some ⟨wo.heap.size, 0, none⟩) 1 1 [.int .i64 i1, .int .i64 i2] rfl (by exact RdS.of_whole (Whole.new_ _ _ _) rfl) (by simp [Value.oneCell']) (by unfold maxLen; omega) (by omega) ?_
           intro v1 w1 how1 hb1 hgr
           have HO1 : RowKit.Hid (Ow w B2 41 2 v1 (j + 1) (rowsV idC ([] ++ (Vs.take (j + 1)).map (·.1))) w1) := Lib.hid (by
             have h9 := HNx.out
             rw [← h9]
             exact how1)
           have HX1 : RowKit.Hid (Whole w1 b0 25 [.slice (some ⟨bb, off, none⟩) n c, .slice B m k]) := Lib.hid ((HX.out.alloc _).grown hgr (HO.out.low_ne h0B))
           clear how1 hb1 hgr))
      go_roundw
      case rel => exact ⟨j + 1, by omega, by go_num, HO1, HX1⟩
      case measure => simp [intOf]; omega
    · obtain rfl : n = j := by omega
      have HO2 : RowKit.Hid (Ow w B2 41 2 u3 (n + 0) (rowsV idC (Vs.map (·.1) ++ (Es.take 0).map (·.1))) wo) := Lib.hid (by
        have h9 := HO.out
        rw [List.take_of_length_le (by have := Hlv.out; omega), List.nil_append] at h9
        simpa using h9)
      have c1 := HX.out.cell (i := 1) rfl
      clear HO
      go_wp2
      clear c1
      go_loopw [3, 5] (fun v si wr => ∃ j : Nat, j ≤ m ∧ si = .int .i64 j ∧ RowKit.Hid (Ow w B2 41 2 v (n + j) (rowsV idC (Vs.map (·.1) ++ (Es.take j).map (·.1))) wr) ∧ RowKit.Hid (Whole wr b0 25 [.slice A n c, .slice B m k])) (fun _ si _ => m - (intOf si).toNat)
      case atStart => exact ⟨0, by omega, rfl, HO2, HX⟩
      case round =>
        clear HO2 HX
        obtain ⟨j, hj2, rfl, HO, HX⟩ := hrel
        obtain ⟨wi, gwi⟩ : ∃ z, wr = z := ⟨_, rfl⟩
        rw [gwi] at HO HX ⊢
        clear gwi
        have cb := HX.out.cell (i := 1) rfl
        by_cases hjm : j < m
        · obtain ⟨x, hx⟩ : ∃ x, Es[j]? = some x := ⟨_, List.getElem?_eq_getElem (by have := Hle.out; omega)⟩
          obtain ⟨bb, off, rfl, hbB, hpl⟩ := HE.out.place eC_len (by decide) (by omega)
          have hbw := HO.out.below
          have q0 := hpl j _ hx 0 _ rfl
          have q1 := hpl j _ hx 1 _ rfl
          have q2 := hpl j _ hx 2 _ rfl
          have q3 := hpl j _ hx 3 _ rfl
          simp only [Addr.add_lit, Nat.add_zero] at q0 q1 q2 q3
          have l0 := (hbw.cell (p := ⟨bb, off + j * 4, none⟩) hbB).trans q0
          have l1 := (hbw.cell (p := ⟨bb, off + j * 4 + 1, none⟩) hbB).trans q1
          have l2 := (hbw.cell (p := ⟨bb, off + j * 4 + 2, none⟩) hbB).trans q2
          have l3 := (hbw.cell (p := ⟨bb, off + j * 4 + 3, none⟩) hbB).trans q3
          have HNx := Lib.hid (names_next (·.1) (Vs.map (·.1)) Es j x hx)
          obtain ⟨⟨i1, i2⟩, lb, at_⟩ := x
          clear hx hpl q0 q1 q2 q3 hbB hbw
          go_wp2_with (first
            | (at_builtin
               refine wpList_push2 rfl (.tmp 30) (.tmp 37) _ rfl _ 41 i0 _ 2 16 Tryz.underlying73 hi hz0 hz1 hz2 rfl (by decide) _ _ _ rfl (by exact HO.out.up (below1 _ _)) _ (some ⟨wi.heap.size, 0, none⟩) 1 1 [.int .i64 i1, .int .i64 i2] rfl (by exact RdS.of_whole (Whole.new_ _ _ _) rfl) (by simp [Value.oneCell']) (by unfold maxLen; omega) (by omega) ?_
               intro v1 w1 how1 hb1 hgr
               have HO1 : RowKit.Hid (Ow w B2 41 2 v1 (n + (j + 1)) (rowsV idC (Vs.map (·.1) ++ (Es.take (j + 1)).map (·.1))) w1) := Lib.hid (by
                 have h9 := HNx.out
                 rw [← h9]
                 exact how1)
               have HX1 : RowKit.Hid (Whole w1 b0 25 [.slice A n c, .slice (some ⟨bb, off, none⟩) m k]) := Lib.hid ((HX.out.alloc _).grown hgr (HO.out.low_ne h0B))
               clear how1 hb1 hgr))
          go_roundw
          case rel => exact ⟨j + 1, by omega, by go_num, HO1, HX1⟩
          case measure => simp [intOf]; omega
        · obtain rfl : m = j := by omega
          have ho := HO.out
          rw [List.take_of_length_le (by have := Hle.out; omega)] at ho
          obtain ⟨A', c', rfl, -⟩ := ho.rds
          have HO3 := Lib.hid ho
          clear HO ho
          go_wp2
          go_ret
          refine ⟨A', c', rfl, ?_⟩
          first | exact HO3.out | (rw [GB2.out]; exact HO3.out)
end Go.Proofs.YtmkflebkifbpfaaGreat
/- The document's rings. -/
namespace Go.Proofs.YtmkflebkifbpfaaGreat
open Go.RowKit
def sideOk (d : D) : Bool := decide (0 ≤ d.2.2) && decide (d.2.2 ≤ 1)
def dartOk (Es : List EC) (d : D) : Bool := (fndE Es (d.1, d.2.1)).2 && sideOk d
def vertOk (Es : List EC) (v : VC) : Bool := turnOk v && v.2.1.2.2.2.all (dartOk Es)
def edgeAt (Vs : List VC) (e : EC) : Nat → Bool
  | 0 => decide (timesV Vs (e.1.1, e.1.2, 0) = 1) && decide (timesV Vs (e.1.1, e.1.2, 1) = 1)
  | 1 => decide (timesV Vs (e.1.1, e.1.2, 1) = 1)
  | _ => true
def ringsF (Vs : List VC) (Es : List EC) : Bool := Vs.all (vertOk Es) && Es.all (fun e => edgeAt Vs e 0)
theorem edgeAt_next (Vs : List VC) (e : EC) (q : Nat) (h : q < 2) : edgeAt Vs e q = (decide (timesV Vs (e.1.1, e.1.2, (q : Int)) = 1) && edgeAt Vs e (q + 1)) := by
  obtain rfl | rfl : q = 0 ∨ q = 1 := by omega
  · rfl
  · simp [edgeAt]
theorem bel_kept {w wo W : World} {B : Nat} (h : Below w.heap.size w wo) (hB : w.heap.size ≤ B) (hk : Kept (From_ B) wo W) : Below w.heap.size w W :=
  ⟨hk.os.trans h.os, hk.tape.trans h.tape, hk.output.trans h.output, Nat.le_trans h.size hk.size, fun i hi => (hk.block i (Nat.lt_of_lt_of_le hi h.size) (fun e => by unfold From_ at e; omega)).trans (h.block i hi)⟩
set_option maxRecDepth 100000 in
set_option maxHeartbeats 4000000 in
theorem rrings_any (A : Option Addr) (n c : Nat) (Vs : List VC) (B : Option Addr) (m k : Nat) (Es : List EC) (w : World) (h : DgIn w A n c Vs B m k Es) (hn : n ≤ 10000) (hm : m ≤ 140737488355328) (hr : ∀ y ∈ Vs, y.2.1.2.1 ≤ 5864062014634) :
    Calls Tryz.prog 39 #[.agg #[.slice A n c, .slice B m k]] w fun e w' => e = .returned (.bool (ringsF Vs Es)) ∧ Below w.heap.size w w' := by
  have H := Lib.hid h.v
  have HE := Lib.hid h.e
  have HRg := Lib.hid h.r
  have Hhr := Lib.hid hr
  have Hl := Lib.hid (h.v.rlen vC_len (by decide))
  have Hle := Lib.hid (h.e.rlen eC_len (by decide))
  have HFe := Lib.hid (fun x1 x2 W (hb : Below w.heap.size w W) => rfindE A n c Vs B m k Es x1 x2 W (h.e.bl hb) hm)
  have HTi := Lib.hid (fun x1 x2 x3 W (hb : Below w.heap.size w W) => rtimes_any A n c Vs B m k Es x1 x2 x3 W (h.below hb) hn hr)
  obtain ⟨b, gb⟩ : ∃ z, ringsF Vs Es = z := ⟨_, rfl⟩
  rw [gb]
  have HG0 : RowKit.Hid (((Vs.drop 0).all (vertOk Es) && Es.all (fun e => edgeAt Vs e 0)) = b) := Lib.hid gb
  clear h hr gb
  go_enter Tryz.func39, Tryz.ntmps39
  go_wp2
  have hx0 : Whole (w.alloc (.cells #[.slice A n c, .slice B m k] 25)) (w.heap.size) 25 [.slice A n c, .slice B m k] := (Whole.new_ w 25 [.slice A n c, .slice B m k])
  have hbl : Below w.heap.size w (w.alloc (.cells #[.slice A n c, .slice B m k] 25)) := (below1 w (.cells #[.slice A n c, .slice B m k] 25))
  have hsz : w.heap.size + 1 ≤ ((w.alloc (.cells #[.slice A n c, .slice B m k] 25))).heap.size := by simp
  obtain ⟨W0, gW0⟩ : ∃ z, (w.alloc (.cells #[.slice A n c, .slice B m k] 25)) = z := ⟨_, rfl⟩
  rw [gW0] at hx0 hbl hsz
  obtain ⟨b0, gb0⟩ : ∃ z, w.heap.size = z := ⟨_, rfl⟩
  rw [gb0] at hx0
  have HX0 := Lib.hid hx0
  have HB0 := Lib.hid hbl
  have HS0 := Lib.hid hsz
  have Gb0 := Lib.hid gb0
  have Lb0 : RowKit.Hid (w.heap.size ≤ b0) := Lib.hid (by omega)
  rw [gW0, gb0]
  clear gW0 hbl hsz hx0 gb0
  go_loopw [3] (fun si wr => ∃ j : Nat, j ≤ n ∧ si = .int .i64 j ∧ RowKit.Hid (Below w.heap.size w wr) ∧ RowKit.Hid (Whole wr b0 25 [.slice A n c, .slice B m k]) ∧ RowKit.Hid (((Vs.drop j).all (vertOk Es) && Es.all (fun e => edgeAt Vs e 0)) = b)) (fun si _ => n - (intOf si).toNat)
  case atStart => exact ⟨0, by omega, rfl, HB0, HX0, HG0⟩
  case round =>
    clear HB0 HX0 HG0
    obtain ⟨j, hj, rfl, HB, HX0, HG⟩ := hrel
    obtain ⟨wo, gwo⟩ : ∃ z, wr = z := ⟨_, rfl⟩
    rw [gwo] at HB HX0 ⊢
    clear gwo
    have cb := HX0.out.cell (i := 0) rfl
    by_cases hjn : j < n
    · obtain ⟨x, hx⟩ : ∃ x, Vs[j]? = some x := ⟨_, List.getElem?_eq_getElem (by have := Hl.out; omega)⟩
      have hdr : Vs.drop j = x :: Vs.drop (j + 1) := by
        rw [List.drop_eq_getElem_cons (List.getElem?_eq_some_iff.1 hx).1, (List.getElem?_eq_some_iff.1 hx).2]
      have hg2 := HG.out
      rw [hdr] at hg2
      obtain ⟨bR, gbR⟩ : ∃ z, ((Vs.drop (j + 1)).all (vertOk Es) && Es.all (fun e => edgeAt Vs e 0)) = z := ⟨_, rfl⟩
      have hg3 : (vertOk Es x && bR) = b := by
        rw [← hg2, ← gbR, List.all_cons, Bool.and_assoc]
      have HbR := Lib.hid gbR
      have hrg := HRg.out x (List.mem_of_getElem? hx)
      have hrn := Hhr.out x (List.mem_of_getElem? hx)
      obtain ⟨bb, off, rfl, hbB, hpl⟩ := H.out.place vC_len (by decide) (by omega)
      have q1 := hpl j _ hx 2 _ rfl
      simp only [Addr.add_lit, Nat.add_zero] at q1
      obtain ⟨⟨i1, i2⟩, ⟨rA, rn, rc, rL⟩, lb, at_⟩ := x
      have l2 : wo.cell? ⟨bb, off + j * 5 + 2, none⟩ = some (.slice rA rn rc) := (HB.out.cell (p := ⟨bb, off + j * 5 + 2, none⟩) hbB).trans q1
      have hR : RdS w w.heap.size 3 rA rn rc (dartsV rL) := hrg.2
      replace hrn : rn ≤ 5864062014634 := hrn
      replace hg3 : ((decide (rL = turnD rL) && rL.all (dartOk Es)) && bR) = b := hg3
      have HG3 := Lib.hid hg3
      have hrl := hR.dlen
      have HT := Lib.hid (fun W (hb : Below w.heap.size w W) => rfturn_any rA rn rc rL W (hR.bl hb) hrn)
      have HD := Lib.hid (fun W (hb : Below w.heap.size w W) A2 c2 (h2 : RdS W W.heap.size 3 A2 (turnD rL).length c2 (dartsV (turnD rL))) => rdarts_any rA A2 rn (turnD rL).length rc c2 rL (turnD rL) W (hR.bl hb) h2 (by omega))
      have HR := Lib.hid (dartsV_rows rL ▸ hR)
      have Hrl := Lib.hid hrl
      obtain ⟨bt, gbt⟩ : ∃ z, decide (rL = turnD rL) = z := ⟨_, rfl⟩
      rw [gbt] at HG3 HD
      obtain ⟨tn, gtn⟩ : ∃ z, (turnD rL).length = z := ⟨_, rfl⟩
      have HT2 : RowKit.Hid (∀ W, Below w.heap.size w W → Calls Tryz.prog 61 #[.slice rA rn rc] W fun e w' => ∃ A2 c2, e = .returned (.slice A2 tn c2) ∧ RdS w' w'.heap.size 3 A2 tn c2 (dartsV (turnD rL)) ∧ Below W.heap.size W w') := Lib.hid (by rw [← gtn]; exact HT.out)
      rw [gtn] at HD
      clear hx hdr hg2 hg3 hbB hpl hrg hR hrl HG q1 HT gbt gbR gtn
      go_wp2_with fail
      refine (HT2.out _ HB.out).mono ?_
      rintro e W2 ⟨A2, c2, rfl, hr2, hb⟩
      have HB2 := Lib.hid (bel_bl HB.out hb)
      have HX02 := Lib.hid (HX0.out.bl hb)
      have HR2 := Lib.hid hr2
      clear hb hr2 HB HX0 HT2 cb l2
      go_wp2_with fail
      refine (HD.out _ HB2.out _ _ HR2.out).mono ?_
      rintro e W3 ⟨rfl, hb⟩
      have HB3 := Lib.hid (bel_bl HB2.out hb)
      have HX03 := Lib.hid (HX02.out.bl hb)
      clear hb HB2 HX02 HD HR2
      cases bt with
      | false =>
        have hb0 : b = false := by rw [← HG3.out]; simp
        subst hb0
        clear HG3
        go_wp2
        go_ret
        exact ⟨rfl, HB3.out⟩
      | true =>
        have HI0 : RowKit.Hid (((rL.drop 0).all (dartOk Es) && bR) = b) := Lib.hid (by
          have h1 := HG3.out
          rw [Bool.true_and] at h1
          exact h1)
        clear HG3
        go_wp2
        go_loopw [6] (fun si wr => ∃ q : Nat, q ≤ rn ∧ si = .int .i64 q ∧ RowKit.Hid (Below w.heap.size w wr) ∧ RowKit.Hid (Whole wr b0 25 [.slice (some ⟨bb, off, none⟩) n c, .slice B m k]) ∧ RowKit.Hid (((rL.drop q).all (dartOk Es) && bR) = b)) (fun si _ => rn - (intOf si).toNat)
        case atStart => exact ⟨0, by omega, rfl, HB3, HX03, HI0⟩
        case round =>
          clear HB3 HX03 HI0
          obtain ⟨q, hq, rfl, HZ, HY0, HI⟩ := hrel
          obtain ⟨wi, gwi⟩ : ∃ z, wr = z := ⟨_, rfl⟩
          rw [gwi] at HZ HY0 ⊢
          clear gwi
          by_cases hqn : q < rn
          · obtain ⟨d, hd⟩ : ∃ d, rL[q]? = some d := ⟨_, List.getElem?_eq_getElem (by have := Hrl.out; omega)⟩
            have hdr : rL.drop q = d :: rL.drop (q + 1) := by
              rw [List.drop_eq_getElem_cons (List.getElem?_eq_some_iff.1 hd).1, (List.getElem?_eq_some_iff.1 hd).2]
            have hi := HI.out
            rw [hdr, List.all_cons, Bool.and_assoc] at hi
            have HI2 := Lib.hid hi
            obtain ⟨rb, ro, rfl, hrB, hrpl⟩ := HR.out.place dC_len (by decide) (by omega)
            have p0 := hrpl q _ hd 0 _ rfl
            have p1 := hrpl q _ hd 1 _ rfl
            have p2 := hrpl q _ hd 2 _ rfl
            simp only [Addr.add_lit, Nat.add_zero] at p0 p1 p2
            have e0 := (HZ.out.cell (p := ⟨rb, ro + q * 3, none⟩) hrB).trans p0
            have e1 := (HZ.out.cell (p := ⟨rb, ro + q * 3 + 1, none⟩) hrB).trans p1
            obtain ⟨d1, d2, d3⟩ := d
            have P2 : RowKit.Hid (∀ W, Below w.heap.size w W → W.cell? ⟨rb, ro + q * 3 + 2, none⟩ = some (.int .i64 d3)) := Lib.hid (fun W hb => (hb.cell (p := ⟨rb, ro + q * 3 + 2, none⟩) hrB).trans p2)
            obtain ⟨⟨ed, ok⟩, ged⟩ : ∃ z, fndE Es (d1, d2) = z := ⟨_, rfl⟩
            obtain ⟨B2, gB2⟩ : ∃ z, wi.heap.size = z := ⟨_, rfl⟩
            have HBw := Lib.hid gB2
            have HEd : RowKit.Hid (∀ w', Kept (From_ B2) wi.drew w' → Calls Tryz.prog 62 #[.agg #[.slice (some ⟨bb, off, none⟩) n c, .slice B m k], .agg #[.int .i64 d1, .int .i64 d2]] w' fun e w'' => e = .returned (.tuple #[.agg (eC ed).toArray, .bool ok]) ∧ Below w'.heap.size w' w'') := Lib.hid (fun w' hk => by
              have := HFe.out d1 d2 w' (bel_kept (bel_dr HZ.out) (by rw [← gB2]; exact HZ.out.size) hk)
              rw [ged] at this
              exact this)
            have HI3 : RowKit.Hid (((ok && sideOk (d1, d2, d3)) && ((rL.drop (q + 1)).all (dartOk Es) && bR)) = b) := Lib.hid (by
              have h1 := HI2.out
              rw [dartOk] at h1
              simp only [ged] at h1
              exact h1)
            clear hd hdr hi HI2 HI hrpl p0 p1 p2 ged
            go_upto_region 11 with fail
            have ldb : ∀ w', Kept (From_ B2) wi.drew w' → w'.cell? ⟨b0, 0, none⟩ = some (.slice (some ⟨bb, off, none⟩) n c) := fun w' h => h.from_cell (Nat.lt_of_lt_of_eq HY0.out.lt HBw.out) (HY0.out.dr.cell (i := 0) rfl)
            have ldc : ∀ w', Kept (From_ B2) wi.drew w' → w'.cell? ⟨b0, 1, none⟩ = some (.slice B m k) := fun w' h => h.from_cell (Nat.lt_of_lt_of_eq HY0.out.lt HBw.out) (HY0.out.dr.cell (i := 1) rfl)
            have ld0 : ∀ w', Kept (From_ B2) wi.drew w' → w'.cell? ⟨rb, ro + q * 3, none⟩ = some (.int .i64 d1) := fun w' h => h.from_cell (Nat.lt_of_lt_of_eq (Nat.lt_of_lt_of_le hrB HZ.out.size) HBw.out) (e0)
            have ld1 : ∀ w', Kept (From_ B2) wi.drew w' → w'.cell? ⟨rb, ro + q * 3 + 1, none⟩ = some (.int .i64 d2) := fun w' h => h.from_cell (Nat.lt_of_lt_of_eq (Nat.lt_of_lt_of_le hrB HZ.out.size) HBw.out) (e1)
            clear e0 e1
            refine wp_region_reg (From_ B2) (by kernel_rfl) ?_
            refine opR_ 0 37 (v := ?_) ?_ ?_; rotate_left
            · intro w' hw'; go_simp; (try with_reducible rfl)
            simp only [st0_, st1_]
            refine opR_ 1 38 (v := ?_) ?_ ?_; rotate_left
            · intro w' hw'; go_simp; (try with_reducible rfl)
            simp only [st0_, st1_]
            refine opR_ 2 39 (v := ?_) ?_ ?_; rotate_left
            · intro w' hw'; go_simp; (try with_reducible rfl)
            simp only [st0_, st1_]
            refine opR_ 3 40 (v := ?_) ?_ ?_; rotate_left
            · intro w' hw'; go_simp; (try with_reducible rfl)
            simp only [st0_, st1_]
            refine opR_ 4 41 (v := ?_) ?_ ?_; rotate_left
            · intro w' hw'; go_simp; (try with_reducible rfl)
            simp only [st0_, st1_]
            refine opR_ 5 42 (v := ?_) ?_ ?_; rotate_left
            · intro w' hw'; go_simp; (try with_reducible rfl)
            simp only [st0_, st1_]
            refine opX_ 6 43 ?_
            apply Exists.intro
            apply And.intro
            · apply yr_call; rfl; rotate_left; intro w' hw'; exact HEd.out w' hw'; intro w'; go_simp
            simp only [st0_, st1_]
            refine opR_ 7 36 (v := ?_) ?_ ?_; rotate_left
            · intro w' hw'; go_simp; (try with_reducible rfl)
            simp only [st0_, st1_]
            refine opR_ 8 44 (v := ?_) ?_ ?_; rotate_left
            · intro w' hw'; go_simp; (try with_reducible rfl)
            simp only [st0_, st1_]
            refine opR_ 9 45 (v := ?_) ?_ ?_; rotate_left
            · intro w' hw'; go_simp; (try with_reducible rfl)
            simp only [st0_, st1_]
            apply wpR_run 10 (some 7)
            · rfl
            · rfl
            · kernel_rfl
            · rfl
            intro w' hw'
            refine ⟨.pointer (some ⟨w'.heap.size, 0, none⟩), w'.alloc (.cells #[.int .i64 0, .int .i64 0, .string { data := #[] }, .int .i64 0] 43), ?_, Kept.of_below (below1 _ _), ?_⟩
            · go_simp
            have HK1 : RowKit.Hid (Kept (From_ B2) wi.drew (w'.alloc (.cells #[.int .i64 0, .int .i64 0, .string { data := #[] }, .int .i64 0] 43))) := Lib.hid ((Kept.of_ext hw').trans (Kept.of_below (below1 _ _)))
            have HW1 : RowKit.Hid (Whole (w'.alloc (.cells #[.int .i64 0, .int .i64 0, .string { data := #[] }, .int .i64 0] 43)) w'.heap.size 43 [.int .i64 0, .int .i64 0, .string { data := #[] }, .int .i64 0]) := Lib.hid (Whole.new_ _ _ [.int .i64 0, .int .i64 0, .string { data := #[] }, .int .i64 0])
            have HL1 : RowKit.Hid (B2 ≤ w'.heap.size) := Lib.hid (by have := hw'.size; have h2 : wi.drew.heap.size = wi.heap.size := rfl; have := HBw.out; omega)
            obtain ⟨W5, gW5⟩ : ∃ z, w'.alloc (.cells #[.int .i64 0, .int .i64 0, .string { data := #[] }, .int .i64 0] 43) = z := ⟨_, rfl⟩
            obtain ⟨g5, gg5⟩ : ∃ z, w'.heap.size = z := ⟨_, rfl⟩
            rw [gW5] at HK1 HW1 ⊢
            rw [gg5] at HW1 HL1 ⊢
            clear hw' gW5 gg5
            simp only [Act.put, stA_, st0_, st1_]
            apply wpR_store 11
            · rfl
            · rfl
            · kernel_rfl
            · rfl
            intro w' hw'
            refine ⟨w'.setRow g5 (eC ed).toArray, store_row_run 43 (.tmp 7) (.tmp 44) rfl g5 rfl (eC ed) rfl 43 [.int .i64 0, .int .i64 0, .string { data := #[] }, .int .i64 0] (HW1.out.bl hw') (by kernel_rfl) rfl (by simp [eC, Value.oneCell']), kept_row (show B2 ≤ g5 from HL1.out) _, ?_⟩
            have HK2 : RowKit.Hid (Kept (From_ B2) wi.drew (w'.setRow g5 (eC ed).toArray)) := Lib.hid ((HK1.out.trans (Kept.of_ext hw')).trans (kept_row (show B2 ≤ g5 from HL1.out) _))
            obtain ⟨W6, gW6⟩ : ∃ z, w'.setRow g5 (eC ed).toArray = z := ⟨_, rfl⟩
            rw [gW6] at HK2 ⊢
            clear hw' gW6 HK1 HW1
            try simp only [Act.put, stA_, st0_, st1_]
            refine opR_ 12 8 (v := ?_) ?_ ?_; rotate_left
            · intro w' hw'; go_simp; (try with_reducible rfl)
            simp only [st0_, st1_]
            refine wpR_done (by kernel_rfl) ?_ _
            intro W7 hw7
            have hk7 := HK2.out.trans (Kept.of_ext hw7)
            have HB7 := Lib.hid (bel_kept (bel_dr HZ.out) (by rw [← HBw.out]; exact HZ.out.size) hk7)
            have HX07 := Lib.hid (hk7.whole HY0.out.dr (fun e => by have := HY0.out.lt; have := HBw.out; unfold From_ at e; omega))
            have c2 := P2.out _ HB7.out
            clear hw7 hk7 HK2 HL1 HZ HY0 ldb ldc ld0 ld1 HEd P2
            by_cases hs0 : 0 ≤ d3
            · by_cases hs1 : d3 ≤ 1
              · have hso : sideOk (d1, d2, d3) = true := by simp [sideOk, hs0, hs1]
                cases ok with
                | false =>
                  have hb0 : b = false := by rw [← HI3.out]; rfl
                  subst hb0
                  clear HI3
                  go_wp2
                  go_ret
                  exact ⟨rfl, HB7.out⟩
                | true =>
                  have HI4 : RowKit.Hid (((rL.drop (q + 1)).all (dartOk Es) && bR) = b) := Lib.hid (by
                    have h1 := HI3.out
                    rw [hso, Bool.and_self, Bool.true_and] at h1
                    exact h1)
                  clear HI3
                  go_wp2
                  go_roundw
                  case rel => exact ⟨q + 1, by omega, by go_num, HB7, HX07, HI4⟩
                  case measure => simp [intOf]; omega
              · have hso : sideOk (d1, d2, d3) = false := by simp [sideOk, hs1]
                have hb0 : b = false := by rw [← HI3.out, hso]; simp
                subst hb0
                clear HI3
                have hs1' : 1 < d3 := by omega
                cases ok with
                | false =>
                  go_wp2
                  go_ret
                  exact ⟨rfl, HB7.out⟩
                | true =>
                  go_wp2
                  go_ret
                  exact ⟨rfl, HB7.out⟩
            · have hso : sideOk (d1, d2, d3) = false := by simp [sideOk, hs0]
              have hb0 : b = false := by rw [← HI3.out, hso]; simp
              subst hb0
              clear HI3
              have hs0' : d3 < 0 := by omega
              cases ok with
              | false =>
                go_wp2
                go_ret
                exact ⟨rfl, HB7.out⟩
              | true =>
                go_wp2
                go_ret
                exact ⟨rfl, HB7.out⟩
          · obtain rfl : rn = q := by omega
            have HG4 : RowKit.Hid (((Vs.drop (j + 1)).all (vertOk Es) && Es.all (fun e => edgeAt Vs e 0)) = b) := Lib.hid (by
              have h1 := HI.out
              rw [List.drop_eq_nil_of_le (by have := Hrl.out; omega)] at h1
              rw [HbR.out, ← h1]
              rfl)
            clear HI
            go_wp2
            go_roundw
            case rel => exact ⟨j + 1, by omega, by go_num, HZ, HY0, HG4⟩
            case measure => simp [intOf]; omega
    · obtain rfl : n = j := by omega
      have HE0 : RowKit.Hid (((Es.drop 0).all (fun e => edgeAt Vs e 0)) = b) := Lib.hid (by
        have h1 := HG.out
        rw [List.drop_eq_nil_of_le (by have := Hl.out; omega)] at h1
        exact h1)
      clear HG
      go_wp2
      clear cb
      go_loopw [9] (fun si wr => ∃ q : Nat, q ≤ m ∧ si = .int .i64 q ∧ RowKit.Hid (Below w.heap.size w wr) ∧ RowKit.Hid (Whole wr b0 25 [.slice A n c, .slice B m k]) ∧ RowKit.Hid (((Es.drop q).all (fun e => edgeAt Vs e 0)) = b)) (fun si _ => m - (intOf si).toNat)
      case atStart => exact ⟨0, by omega, rfl, HB, HX0, HE0⟩
      case round =>
        clear HB HX0 HE0
        obtain ⟨q, hq, rfl, HB, HX0, HG⟩ := hrel
        obtain ⟨wo, gwo⟩ : ∃ z, wr = z := ⟨_, rfl⟩
        rw [gwo] at HB HX0 ⊢
        clear gwo
        have cb := HX0.out.cell (i := 1) rfl
        by_cases hqm : q < m
        · obtain ⟨x, hx⟩ : ∃ x, Es[q]? = some x := ⟨_, List.getElem?_eq_getElem (by have := Hle.out; omega)⟩
          have hdr : Es.drop q = x :: Es.drop (q + 1) := by
            rw [List.drop_eq_getElem_cons (List.getElem?_eq_some_iff.1 hx).1, (List.getElem?_eq_some_iff.1 hx).2]
          have hg2 := HG.out
          rw [hdr, List.all_cons] at hg2
          obtain ⟨bR, gbR⟩ : ∃ z, (Es.drop (q + 1)).all (fun e => edgeAt Vs e 0) = z := ⟨_, rfl⟩
          rw [gbR] at hg2
          have HbR := Lib.hid gbR
          have HI0 := Lib.hid hg2
          obtain ⟨bb, off, rfl, hbB, hpl⟩ := HE.out.place eC_len (by decide) (by omega)
          have q0 := hpl q _ hx 0 _ rfl
          have q1 := hpl q _ hx 1 _ rfl
          simp only [Addr.add_lit, Nat.add_zero] at q0 q1
          have Q0 := Lib.hid (And.intro q0 q1)
          have HbB := Lib.hid hbB
          have HNx := Lib.hid (fun t ht => edgeAt_next Vs x t ht)
          clear hx hdr hg2 gbR hbB hpl q0 q1 HG
          go_wp2
          clear cb
          go_loopw [10] (fun si wr => ∃ t : Nat, t ≤ 2 ∧ si = .int .i64 t ∧ RowKit.Hid (Below w.heap.size w wr) ∧ RowKit.Hid (Whole wr b0 25 [.slice A n c, .slice (some ⟨bb, off, none⟩) m k]) ∧ RowKit.Hid ((edgeAt Vs x t && bR) = b)) (fun si _ => 2 - (intOf si).toNat)
          case atStart => exact ⟨0, by omega, rfl, HB, HX0, HI0⟩
          case round =>
            clear HB HX0 HI0
            obtain ⟨t, ht, rfl, HZ, HY0, HI⟩ := hrel
            obtain ⟨wi, gwi⟩ : ∃ z, wr = z := ⟨_, rfl⟩
            rw [gwi] at HZ HY0 ⊢
            clear gwi
            by_cases ht2 : t < 2
            · have hi := HI.out
              rw [HNx.out t ht2] at hi
              obtain ⟨⟨i1, i2⟩, lb, at_⟩ := x
              have htI : (t : Int) < 2 := by omega
              have e0 := (HZ.out.cell (p := ⟨bb, off + q * 4, none⟩) HbB.out).trans Q0.out.1
              have e1 := (HZ.out.cell (p := ⟨bb, off + q * 4 + 1, none⟩) HbB.out).trans Q0.out.2
              dsimp only at hi e0 e1
              have HT : RowKit.Hid (∀ w', Kept Nil_ wi.drew w' → Calls Tryz.prog 63 #[.agg #[.slice A n c, .slice (some ⟨bb, off, none⟩) m k], .agg #[.int .i64 i1, .int .i64 i2, .int .i64 (t : Int)]] w' fun e w'' => e = .returned (.int .i64 (timesV Vs (i1, i2, (t : Int)) : Nat)) ∧ Below w'.heap.size w' w'') :=
                Lib.hid (fun w' hk => HTi.out i1 i2 t w' (bel_bl (bel_dr HZ.out) (hk.below (Nat.le_refl _) (fun _ _ h => h))))
              obtain ⟨tv, gtv⟩ : ∃ z, timesV Vs (i1, i2, (t : Int)) = z := ⟨_, rfl⟩
              rw [gtv] at HT hi
              have HI2 := Lib.hid hi
              clear hi gtv HI
              go_upto_region 20 with fail
              have ldb : ∀ w', Kept Nil_ wi.drew w' → w'.cell? ⟨b0, 0, none⟩ = some (.slice A n c) := fun w' h => h.nil_cell (HY0.out.dr.cell (i := 0) rfl)
              have ldc : ∀ w', Kept Nil_ wi.drew w' → w'.cell? ⟨b0, 1, none⟩ = some (.slice (some ⟨bb, off, none⟩) m k) := fun w' h => h.nil_cell (HY0.out.dr.cell (i := 1) rfl)
              have ld0 : ∀ w', Kept Nil_ wi.drew w' → w'.cell? ⟨bb, off + q * 4, none⟩ = some (.int .i64 i1) := fun w' h => h.nil_cell (e0)
              have ld1 : ∀ w', Kept Nil_ wi.drew w' → w'.cell? ⟨bb, off + q * 4 + 1, none⟩ = some (.int .i64 i2) := fun w' h => h.nil_cell (e1)
              clear e0 e1
              refine wp_region_reg (Nil_) (by kernel_rfl) ?_
              refine opR_ 0 75 (v := ?_) ?_ ?_; rotate_left
              · intro w' hw'; go_simp; (try with_reducible rfl)
              simp only [st0_, st1_]
              refine opR_ 1 76 (v := ?_) ?_ ?_; rotate_left
              · intro w' hw'; go_simp; (try with_reducible rfl)
              simp only [st0_, st1_]
              refine opR_ 2 77 (v := ?_) ?_ ?_; rotate_left
              · intro w' hw'; go_simp; (try with_reducible rfl)
              simp only [st0_, st1_]
              refine opR_ 3 78 (v := ?_) ?_ ?_; rotate_left
              · intro w' hw'; go_simp; (try with_reducible rfl)
              simp only [st0_, st1_]
              refine opR_ 4 79 (v := ?_) ?_ ?_; rotate_left
              · intro w' hw'; go_simp; (try with_reducible rfl)
              simp only [st0_, st1_]
              refine opR_ 5 80 (v := ?_) ?_ ?_; rotate_left
              · intro w' hw'; go_simp; (try with_reducible rfl)
              simp only [st0_, st1_]
              refine opR_ 6 81 (v := ?_) ?_ ?_; rotate_left
              · intro w' hw'; go_simp; (try with_reducible rfl)
              simp only [st0_, st1_]
              refine opR_ 7 82 (v := ?_) ?_ ?_; rotate_left
              · intro w' hw'; go_simp; (try with_reducible rfl)
              simp only [st0_, st1_]
              refine opR_ 8 83 (v := ?_) ?_ ?_; rotate_left
              · intro w' hw'; go_simp; (try with_reducible rfl)
              simp only [st0_, st1_]
              refine opX_ 9 84 ?_
              apply Exists.intro
              apply And.intro
              · apply yr_call; rfl; rotate_left; intro w' hw'; exact HT.out w' hw'; intro w'; go_simp
              simp only [st0_, st1_]
              refine opR_ 10 85 (v := ?_) ?_ ?_; rotate_left
              · intro w' hw'; go_simp; (try with_reducible rfl)
              simp only [st0_, st1_]
              refine wpR_done (by kernel_rfl) ?_ _
              intro W7 hw7
              have HB7 := Lib.hid (bel_bl (bel_dr HZ.out) hw7)
              have HX07 := Lib.hid (HY0.out.dr.bl hw7)
              clear hw7 HZ HY0 ldb ldc ld0 ld1 HT
              by_cases htv : tv = 1
              · have htI2 : ((tv : Int) != 1) = false := by subst htv; rfl
                have HI4 : RowKit.Hid ((edgeAt Vs ((i1, i2), lb, at_) (t + 1) && bR) = b) := Lib.hid (by
                  have h1 := HI2.out
                  rw [decide_eq_true htv, Bool.true_and] at h1
                  exact h1)
                clear HI2 htv
                go_wp2
                go_roundw
                case rel => exact ⟨t + 1, by omega, by go_num, HB7, HX07, HI4⟩
                case measure => simp [intOf]; omega
              · have htI2 : ((tv : Int) != 1) = true := by simp; omega
                have hb0 : b = false := by rw [← HI2.out, decide_eq_false htv]; rfl
                subst hb0
                clear HI2 htv
                go_wp2
                go_ret
                exact ⟨rfl, HB7.out⟩
            · obtain rfl : t = 2 := by omega
              have HG4 : RowKit.Hid ((Es.drop (q + 1)).all (fun e => edgeAt Vs e 0) = b) := Lib.hid (by rw [HbR.out, ← HI.out]; rfl)
              clear HI
              rw [show ((2 : Nat) : Int) = 2 from rfl]
              go_wp2
              go_roundw
              case rel => exact ⟨q + 1, by omega, by go_num, HZ, HY0, HG4⟩
              case measure => simp [intOf]; omega
        · obtain rfl : m = q := by omega
          have hb0 : b = true := by
            rw [← HG.out, List.drop_eq_nil_of_le (by have := Hle.out; omega)]
            rfl
          subst hb0
          clear HG
          go_wp2
          go_ret
          exact ⟨rfl, HB.out⟩
end Go.Proofs.YtmkflebkifbpfaaGreat
/- The document's Form. -/
namespace Go.Proofs.YtmkflebkifbpfaaGreat
open Go.RowKit
/-- What the document says is wrong with a diagram. -/
def formR (Vs : List VC) (Es : List EC) : Int :=
  if decide (24 < Vs.length ∨ 40 < Es.length) then 3 else if !(riseF none (Vs.map (·.1)) && riseF none (Es.map (·.1)) && ringsF Vs Es) then 10
  else if !(Vs.all (fun v => mayL v.2.2.1) && Es.all (fun v => mayL v.2.1)) then 4 else if !(Vs.all (fun v => mayA v.2.2.2) && Es.all (fun v => mayA v.2.2)) then 1 else 0
theorem all_next {α : Type} (p : α → Bool) (L : List α) (j : Nat) (x : α) (h : L[j]? = some x) : (L.take (j + 1)).all p = ((L.take j).all p && p x) := by
  have : L.take (j + 1) = L.take j ++ [x] := by rw [List.take_add_one, h]; rfl
  rw [this, List.all_append]
  simp
theorem own_parts {w W : World} {B : Nat} {A : Option Addr} {n m c : Nat} {T : TypeId} {L M : List (Int × Int)} (h : Ow w B T 2 (.slice A (n + m) c) (n + m) (rowsV idC (L ++ M)) W) (hL : L.length = n) (hM : M.length = m) :
    RdS W W.heap.size 2 A n c (rowsV idC L) ∧ RdS W W.heap.size 2 (if c = n then A else A.map (·.add (n * 2))) m (c - n) (rowsV idC M) ∧ n + m ≤ c ∧ c ≤ maxLen := by
  have hr := own_rds h.own
  have h1 := hr.take_ n (by omega)
  have h2 := hr.low_ (k := n) (by omega)
  rw [← rowsV_take idC idC_len, ← hL, List.take_left] at h1
  rw [← rowsV_drop idC idC_len, ← hL, List.drop_left] at h2
  rw [hL] at h1 h2
  rw [Nat.add_sub_cancel_left] at h2
  exact ⟨h1, h2, hr.le, own_cap h.own⟩
set_option maxRecDepth 100000 in
set_option maxHeartbeats 4000000 in
theorem rform_any (A : Option Addr) (n c : Nat) (Vs : List VC) (B : Option Addr) (m k : Nat) (Es : List EC) (w : World) (h : DgIn w A n c Vs B m k Es) (hr : ∀ y ∈ Vs, y.2.1.2.1 ≤ 5864062014634)
    (hsv : ∀ x ∈ Vs, x.2.2.1.size ≤ maxLen) (hse : ∀ x ∈ Es, x.2.1.size ≤ maxLen) :
    Calls Tryz.prog 24 #[.agg #[.slice A n c, .slice B m k]] w fun e w' => e = .returned (.int .i64 (formR Vs Es)) ∧ Below w.heap.size w w' := by
  have H := Lib.hid h.v
  have HE := Lib.hid h.e
  have hl := h.v.rlen vC_len (by decide)
  have hle := h.e.rlen eC_len (by decide)
  have Hl := Lib.hid hl
  have Hle := Lib.hid hle
  have HSv := Lib.hid hsv
  have HSe := Lib.hid hse
  obtain ⟨r, gr⟩ : ∃ z, formR Vs Es = z := ⟨_, rfl⟩
  rw [gr]
  unfold formR at gr
  rw [hl, hle] at gr
  by_cases hbig : 24 < n ∨ 40 < m
  · rw [decide_eq_true hbig] at gr
    replace gr : (3 : Int) = r := gr
    subst gr
    clear h hr hsv hse hl hle
    have HB1 := Lib.hid (below1 w (.cells #[.slice A n c, .slice B m k] 25))
    by_cases h24 : 24 < n
    · have q : (24 : Int) < (n : Int) := by omega
      clear hbig
      go_enter Tryz.func24, Tryz.ntmps24
      go_wp2
      go_ret
      exact ⟨rfl, HB1.out⟩
    · have q : ¬ (24 : Int) < (n : Int) := by omega
      have q2 : (40 : Int) < (m : Int) := by omega
      clear hbig
      go_enter Tryz.func24, Tryz.ntmps24
      go_wp2
      go_ret
      exact ⟨rfl, HB1.out⟩
  rw [decide_eq_false hbig] at gr
  have hn24 : n ≤ 24 := by omega
  have hm40 : m ≤ 40 := by omega
  have HNm := Lib.hid (fun W (hb : Below w.heap.size w W) => rnames_any A n c Vs B m k Es W (h.below hb) (by omega) (by omega))
  have HRg := Lib.hid (fun W (hb : Below w.heap.size w W) => rrings_any A n c Vs B m k Es W (h.below hb) (by omega) (by omega) hr)
  have hl1 : (Vs.map (·.1)).length = n := by rw [List.length_map]; exact hl
  have hl2 : (Es.map (·.1)).length = m := by rw [List.length_map]; exact hle
  obtain ⟨L1, gL1⟩ : ∃ z, Vs.map (·.1) = z := ⟨_, rfl⟩
  obtain ⟨L2, gL2⟩ : ∃ z, Es.map (·.1) = z := ⟨_, rfl⟩
  rw [gL1, gL2] at HNm
  rw [gL1, gL2] at gr
  rw [gL1] at hl1
  rw [gL2] at hl2
  have HR1 := Lib.hid (fun A1 c1 W (h1 : RdS W W.heap.size 2 A1 n c1 (rowsV idC L1)) => rrise_any A1 n c1 L1 W h1 (by omega))
  have HR2 := Lib.hid (fun A1 c1 W (h1 : RdS W W.heap.size 2 A1 m c1 (rowsV idC L2)) => rrise_any A1 m c1 L2 W h1 (by omega))
  obtain ⟨r1, gr1⟩ : ∃ z, riseF none L1 = z := ⟨_, rfl⟩
  obtain ⟨r2, gr2⟩ : ∃ z, riseF none L2 = z := ⟨_, rfl⟩
  obtain ⟨r3, gr3⟩ : ∃ z, ringsF Vs Es = z := ⟨_, rfl⟩
  rw [gr1] at HR1 gr
  rw [gr2] at HR2 gr
  rw [gr3] at HRg gr
  have HGr := Lib.hid gr
  have Hln := Lib.hid (And.intro hl1 hl2)
  clear h hr hsv hse hl hle hbig gr gr1 gr2 gr3 gL1 gL2 hl1 hl2
  have qn : ¬ (24 : Int) < (n : Int) := by omega
  have qm : ¬ (40 : Int) < (m : Int) := by omega
  go_enter Tryz.func24, Tryz.ntmps24
  go_wp2_with fail
  have hx0 : Whole (w.alloc (.cells #[.slice A n c, .slice B m k] 25)) (w.heap.size) 25 [.slice A n c, .slice B m k] := (Whole.new_ w 25 [.slice A n c, .slice B m k])
  have hbl : Below w.heap.size w (w.alloc (.cells #[.slice A n c, .slice B m k] 25)) := (below1 w (.cells #[.slice A n c, .slice B m k] 25))
  have hsz : w.heap.size + 1 ≤ ((w.alloc (.cells #[.slice A n c, .slice B m k] 25))).heap.size := by simp
  obtain ⟨W0, gW0⟩ : ∃ z, (w.alloc (.cells #[.slice A n c, .slice B m k] 25)) = z := ⟨_, rfl⟩
  rw [gW0] at hx0 hbl hsz
  obtain ⟨b0, gb0⟩ : ∃ z, w.heap.size = z := ⟨_, rfl⟩
  rw [gb0] at hx0
  have HX0 := Lib.hid hx0
  have HB0 := Lib.hid hbl
  have HS0 := Lib.hid hsz
  have Gb0 := Lib.hid gb0
  have Lb0 : RowKit.Hid (w.heap.size ≤ b0) := Lib.hid (by omega)
  rw [gW0]
  try rw [gb0]
  clear gW0 hbl hsz hx0 gb0
  refine (HNm.out _ HB0.out).mono ?_
  rintro e W1 ⟨A1, c1, rfl, ho⟩
  have HB1 := Lib.hid (bel_bl HB0.out ho.below)
  have HX1 := Lib.hid (HX0.out.bl ho.below)
  obtain ⟨hp1, hp2, hc1, hc2⟩ := own_parts ho Hln.out.1 Hln.out.2
  have HP1 := Lib.hid hp1
  have HP2 := Lib.hid hp2
  obtain ⟨A2, gA2⟩ : ∃ z, (if c1 = n then A1 else A1.map (·.add (n * 2))) = z := ⟨_, rfl⟩
  obtain ⟨c2, gc2⟩ : ∃ z, c1 - n = z := ⟨_, rfl⟩
  rw [gA2, gc2] at HP2
  have GA2 := Lib.hid gA2
  have Gc2 := Lib.hid gc2
  have hc63 : c1 ≤ 9223372036854775807 := by unfold maxLen at hc2; omega
  have cb := HX1.out.cell (i := 0) rfl
  clear ho hp1 hp2 hc2 gA2 gc2 HB0 HX0 HNm
  go_wp2_with fail
  refine (HR1.out _ _ _ HP1.out).mono ?_
  rintro e W2 ⟨rfl, hb⟩
  have HB2 := Lib.hid (bel_bl HB1.out hb)
  have HX2 := Lib.hid (HX1.out.bl hb)
  have HQ2 := Lib.hid (HP2.out.bl hb)
  clear hb cb HB1 HX1 HP1 HP2 HR1
  go_upto_region 6 with fail
  refine wp_region_lit ?_
  refine wl_read (v := ?_) (some 30) rfl (by rfl) ?_ ?_
  rotate_left
  · go_simp; (try with_reducible rfl)
  simp only [Act.put, stA_, st0_, st1_]
  refine wl_read (v := ?_) (some 31) rfl (by rfl) ?_ ?_
  rotate_left
  · go_simp; (try with_reducible rfl)
  simp only [Act.put, stA_, st0_, st1_]
  refine wl_read (some 32) rfl (by rfl) (exec_slice_low_as 73 41 (.tmp 30) (.tmp 31) rfl Tryz.underlying73 (s := 2) (by kernel_rfl) rfl rfl (by omega) GA2.out (Nat.add_sub_cancel_left _ _) Gc2.out) ?_
  simp only [Act.put, stA_, st0_, st1_]
  go_wp2_with fail
  refine (HR2.out _ _ _ HQ2.out).mono ?_
  rintro e W3 ⟨rfl, hb⟩
  have HB3 := Lib.hid (bel_bl HB2.out hb)
  have HX3 := Lib.hid (HX2.out.bl hb)
  clear hb HB2 HX2 HQ2 HR2
  cases r1 with
  | false =>
    have hr : r = 10 := by rw [← HGr.out]; rfl
    subst hr
    go_wp2
    go_ret
    exact ⟨rfl, HB3.out⟩
  | true =>
    cases r2 with
    | false =>
      have hr : r = 10 := by rw [← HGr.out]; rfl
      subst hr
      go_wp2
      go_ret
      exact ⟨rfl, HB3.out⟩
    | true =>
      have hx3 := HX3.out.cell (i := 0) rfl
      have hx4 := HX3.out.cell (i := 1) rfl
      go_wp2_with fail
      refine (HRg.out _ HB3.out).mono ?_
      rintro e W4 ⟨rfl, hb⟩
      have HBs := Lib.hid (bel_bl HB3.out hb)
      have HXs := Lib.hid (HX3.out.bl hb)
      clear hb hx3 hx4 HB3 HX3 HRg
      cases r3 with
      | false =>
        have hr : r = 10 := by rw [← HGr.out]; rfl
        subst hr
        go_wp2
        go_ret
        exact ⟨rfl, HBs.out⟩
      | true =>
        have HG : RowKit.Hid ((if !(Vs.all (fun v => mayL v.2.2.1) && Es.all (fun v => mayL v.2.1)) then 4 else if !(Vs.all (fun v => mayA v.2.2.2) && Es.all (fun v => mayA v.2.2)) then 1 else 0) = r) := HGr
        clear HGr qn qm hc1 hc63
        go_wp2
        go_loopw [7, 8, 9] (fun sl sa si wr => ∃ (j : Nat) (p q : Bool), j ≤ n ∧ si = .int .i64 j ∧ sl = .bool p ∧ sa = .bool q ∧ RowKit.Hid (Below w.heap.size w wr) ∧ RowKit.Hid (Whole wr b0 25 [.slice A n c, .slice B m k]) ∧ RowKit.Hid ((Vs.take j).all (fun v => mayL v.2.2.1) = p) ∧ RowKit.Hid ((Vs.take j).all (fun v => mayA v.2.2.2) = q)) (fun _ _ si _ => n - (intOf si).toNat)
        case atStart => exact ⟨0, true, true, by omega, rfl, rfl, rfl, HBs, HXs, Lib.hid (rfl), Lib.hid (rfl)⟩
        case round =>
          clear HBs HXs
          obtain ⟨j, p, q, hj, rfl, rfl, rfl, HB, HX0, HP, HQ⟩ := hrel
          obtain ⟨wo, gwo⟩ : ∃ z, wr = z := ⟨_, rfl⟩
          rw [gwo] at HB HX0 ⊢
          clear gwo
          have cb := HX0.out.cell (i := 0) rfl
          by_cases hjn : j < n
          · obtain ⟨x, hx⟩ : ∃ x, Vs[j]? = some x := ⟨_, List.getElem?_eq_getElem (by have := Hl.out; omega)⟩
            have hnl := all_next (fun v => mayL v.2.2.1) Vs j x hx
            have hna := all_next (fun v => mayA v.2.2.2) Vs j x hx
            have hsz := HSv.out x (List.mem_of_getElem? hx)
            obtain ⟨bb, off, rfl, hbB, hpl⟩ := H.out.place vC_len (by decide) (by omega)
            have HbB := Lib.hid hbB
            have q2 := hpl j _ hx 3 _ rfl
            have q3 := hpl j _ hx 4 _ rfl
            simp only [Addr.add_lit, Nat.add_zero] at q2 q3
            obtain ⟨⟨i1, i2⟩, ⟨rA, rn, rc, rL⟩, lb, at_⟩ := x
            replace hsz : lb.size ≤ maxLen := hsz
            replace q2 : w.cell? ⟨bb, off + j * 5 + 3, none⟩ = some (.string lb) := q2
            replace q3 : w.cell? ⟨bb, off + j * 5 + 4, none⟩ = some (.int .i64 at_) := q3
            have HML := Lib.hid (rmaylabel_any lb hsz)
            have HMA := Lib.hid (rmayattr_any at_)
            have Q2 : RowKit.Hid (∀ W, Below w.heap.size w W → W.cell? ⟨bb, off + j * 5 + 3, none⟩ = some (.string lb)) := Lib.hid (fun W hb => (hb.cell (p := ⟨bb, off + j * 5 + 3, none⟩) hbB).trans q2)
            have Q3 : RowKit.Hid (∀ W, Below w.heap.size w W → W.cell? ⟨bb, off + j * 5 + 4, none⟩ = some (.int .i64 at_)) := Lib.hid (fun W hb => (hb.cell (p := ⟨bb, off + j * 5 + 4, none⟩) hbB).trans q3)
            obtain ⟨bl, gbl⟩ : ∃ z, mayL lb = z := ⟨_, rfl⟩
            obtain ⟨ba, gba⟩ : ∃ z, mayA at_ = z := ⟨_, rfl⟩
            have hml : ∀ W, Calls Tryz.prog 40 #[.string lb] W fun e w' => e = .returned (.bool bl) ∧ Below W.heap.size W w' := by rw [← gbl]; exact HML.out
            have hma : ∀ W, Calls Tryz.prog 41 #[.int .i64 at_] W fun e w' => e = .returned (.bool ba) ∧ Below W.heap.size W w' := by rw [← gba]; exact HMA.out
            replace HML := Lib.hid hml
            replace HMA := Lib.hid hma
            have HP2 : RowKit.Hid ((Vs.take (j + 1)).all (fun v => mayL v.2.2.1) = (p && bl)) := Lib.hid (by
              have h1 := HP.out
              rw [hnl, ← gbl, ← h1]
              try rw [Bool.and_assoc])
            have HQ2 : RowKit.Hid ((Vs.take (j + 1)).all (fun v => mayA v.2.2.2) = (q && ba)) := Lib.hid (by
              have h1 := HQ.out
              rw [hna, ← gba, ← h1]
              try rw [Bool.and_assoc])
            clear hx hnl hna hsz hbB hpl q2 q3 gbl gba hml hma HP HQ
            cases p with
            | false =>
              cases q with
              | false =>
                go_wp2
                go_roundw
                case rel => exact ⟨j + 1, false, false, by omega, by go_num, rfl, rfl, HB, HX0, by first | exact HP2 | (have h := HP2; simpa using h), by first | exact HQ2 | (have h := HQ2; simpa using h)⟩
                case measure => simp [intOf]; omega
              | true =>
                have l3 := Q3.out _ HB.out
                go_wp2_with fail
                refine (HMA.out _).mono ?_
                rintro e W3 ⟨rfl, hb⟩
                have HB3 := Lib.hid (bel_bl HB.out hb)
                have HX3 := Lib.hid (HX0.out.bl hb)
                clear hb l3 cb
                go_wp2
                go_roundw
                case rel => exact ⟨j + 1, false, ba, by omega, by go_num, rfl, rfl, HB3, HX3, by first | exact HP2 | (have h := HP2; simpa using h), by first | exact HQ2 | (have h := HQ2; simpa using h)⟩
                case measure => simp [intOf]; omega
            | true =>
              cases q with
              | false =>
                have l2 := Q2.out _ HB.out
                go_wp2_with fail
                refine (HML.out _).mono ?_
                rintro e W2 ⟨rfl, hb⟩
                have HB2 := Lib.hid (bel_bl HB.out hb)
                have HX2 := Lib.hid (HX0.out.bl hb)
                clear hb l2 cb
                go_wp2
                go_roundw
                case rel => exact ⟨j + 1, bl, false, by omega, by go_num, rfl, rfl, HB2, HX2, by first | exact HP2 | (have h := HP2; simpa using h), by first | exact HQ2 | (have h := HQ2; simpa using h)⟩
                case measure => simp [intOf]; omega
              | true =>
                have l2 := Q2.out _ HB.out
                go_wp2_with fail
                refine (HML.out _).mono ?_
                rintro e W2 ⟨rfl, hb⟩
                have HB2 := Lib.hid (bel_bl HB.out hb)
                have HX2 := Lib.hid (HX0.out.bl hb)
                clear hb l2 cb
                have l3 := Q3.out _ HB2.out
                have cb := HX2.out.cell (i := 0) rfl
                go_wp2_with fail
                refine (HMA.out _).mono ?_
                rintro e W3 ⟨rfl, hb⟩
                have HB3 := Lib.hid (bel_bl HB2.out hb)
                have HX3 := Lib.hid (HX2.out.bl hb)
                clear hb l3 cb
                go_wp2
                go_roundw
                case rel => exact ⟨j + 1, bl, ba, by omega, by go_num, rfl, rfl, HB3, HX3, by first | exact HP2 | (have h := HP2; simpa using h), by first | exact HQ2 | (have h := HQ2; simpa using h)⟩
                case measure => simp [intOf]; omega
          · obtain rfl : n = j := by omega
            have HPv : RowKit.Hid (Vs.all (fun v => mayL v.2.2.1) = p) := Lib.hid (by have h1 := HP.out; rwa [List.take_of_length_le (by have := Hl.out; omega)] at h1)
            have HQv : RowKit.Hid (Vs.all (fun v => mayA v.2.2.2) = q) := Lib.hid (by have h1 := HQ.out; rwa [List.take_of_length_le (by have := Hl.out; omega)] at h1)
            clear HP HQ
            go_wp2
            clear cb
            obtain ⟨pv, gpv⟩ : ∃ z, p = z := ⟨_, rfl⟩
            obtain ⟨qv, gqv⟩ : ∃ z, q = z := ⟨_, rfl⟩
            rw [gpv] at HPv ⊢
            rw [gqv] at HQv ⊢
            clear gpv gqv
            have HBs := HB
            have HXs := HX0
            clear HB HX0
            go_loopw [7, 8, 10] (fun sl sa si wr => ∃ (j : Nat) (p q : Bool), j ≤ m ∧ si = .int .i64 j ∧ sl = .bool p ∧ sa = .bool q ∧ RowKit.Hid (Below w.heap.size w wr) ∧ RowKit.Hid (Whole wr b0 25 [.slice A n c, .slice B m k]) ∧ RowKit.Hid (((Vs.all (fun v => mayL v.2.2.1)) && (Es.take j).all (fun v => mayL v.2.1)) = p) ∧ RowKit.Hid (((Vs.all (fun v => mayA v.2.2.2)) && (Es.take j).all (fun v => mayA v.2.2)) = q)) (fun _ _ si _ => m - (intOf si).toNat)
            case atStart => exact ⟨0, pv, qv, by omega, rfl, rfl, rfl, HBs, HXs, Lib.hid (by rw [HPv.out]; simp), Lib.hid (by rw [HQv.out]; simp)⟩
            case round =>
              clear HBs HXs
              obtain ⟨j, p, q, hj, rfl, rfl, rfl, HB, HX0, HP, HQ⟩ := hrel
              obtain ⟨wo, gwo⟩ : ∃ z, wr = z := ⟨_, rfl⟩
              rw [gwo] at HB HX0 ⊢
              clear gwo
              have cb := HX0.out.cell (i := 1) rfl
              by_cases hjn : j < m
              · obtain ⟨x, hx⟩ : ∃ x, Es[j]? = some x := ⟨_, List.getElem?_eq_getElem (by have := Hle.out; omega)⟩
                have hnl := all_next (fun v => mayL v.2.1) Es j x hx
                have hna := all_next (fun v => mayA v.2.2) Es j x hx
                have hsz := HSe.out x (List.mem_of_getElem? hx)
                obtain ⟨bb, off, rfl, hbB, hpl⟩ := HE.out.place eC_len (by decide) (by omega)
                have HbB := Lib.hid hbB
                have q2 := hpl j _ hx 2 _ rfl
                have q3 := hpl j _ hx 3 _ rfl
                simp only [Addr.add_lit, Nat.add_zero] at q2 q3
                obtain ⟨⟨i1, i2⟩, lb, at_⟩ := x
                replace hsz : lb.size ≤ maxLen := hsz
                replace q2 : w.cell? ⟨bb, off + j * 4 + 2, none⟩ = some (.string lb) := q2
                replace q3 : w.cell? ⟨bb, off + j * 4 + 3, none⟩ = some (.int .i64 at_) := q3
                have HML := Lib.hid (rmaylabel_any lb hsz)
                have HMA := Lib.hid (rmayattr_any at_)
                have Q2 : RowKit.Hid (∀ W, Below w.heap.size w W → W.cell? ⟨bb, off + j * 4 + 2, none⟩ = some (.string lb)) := Lib.hid (fun W hb => (hb.cell (p := ⟨bb, off + j * 4 + 2, none⟩) hbB).trans q2)
                have Q3 : RowKit.Hid (∀ W, Below w.heap.size w W → W.cell? ⟨bb, off + j * 4 + 3, none⟩ = some (.int .i64 at_)) := Lib.hid (fun W hb => (hb.cell (p := ⟨bb, off + j * 4 + 3, none⟩) hbB).trans q3)
                obtain ⟨bl, gbl⟩ : ∃ z, mayL lb = z := ⟨_, rfl⟩
                obtain ⟨ba, gba⟩ : ∃ z, mayA at_ = z := ⟨_, rfl⟩
                have hml : ∀ W, Calls Tryz.prog 40 #[.string lb] W fun e w' => e = .returned (.bool bl) ∧ Below W.heap.size W w' := by rw [← gbl]; exact HML.out
                have hma : ∀ W, Calls Tryz.prog 41 #[.int .i64 at_] W fun e w' => e = .returned (.bool ba) ∧ Below W.heap.size W w' := by rw [← gba]; exact HMA.out
                replace HML := Lib.hid hml
                replace HMA := Lib.hid hma
                have HP2 : RowKit.Hid (((Vs.all (fun v => mayL v.2.2.1)) && (Es.take (j + 1)).all (fun v => mayL v.2.1)) = (p && bl)) := Lib.hid (by
                  have h1 := HP.out
                  rw [hnl, ← gbl, ← h1]
                  try rw [Bool.and_assoc])
                have HQ2 : RowKit.Hid (((Vs.all (fun v => mayA v.2.2.2)) && (Es.take (j + 1)).all (fun v => mayA v.2.2)) = (q && ba)) := Lib.hid (by
                  have h1 := HQ.out
                  rw [hna, ← gba, ← h1]
                  try rw [Bool.and_assoc])
                clear hx hnl hna hsz hbB hpl q2 q3 gbl gba hml hma HP HQ
                cases p with
                | false =>
                  cases q with
                  | false =>
                    go_wp2
                    go_roundw
                    case rel => exact ⟨j + 1, false, false, by omega, by go_num, rfl, rfl, HB, HX0, by first | exact HP2 | (have h := HP2; simpa using h), by first | exact HQ2 | (have h := HQ2; simpa using h)⟩
                    case measure => simp [intOf]; omega
                  | true =>
                    have l3 := Q3.out _ HB.out
                    go_wp2_with fail
                    refine (HMA.out _).mono ?_
                    rintro e W3 ⟨rfl, hb⟩
                    have HB3 := Lib.hid (bel_bl HB.out hb)
                    have HX3 := Lib.hid (HX0.out.bl hb)
                    clear hb l3 cb
                    go_wp2
                    go_roundw
                    case rel => exact ⟨j + 1, false, ba, by omega, by go_num, rfl, rfl, HB3, HX3, by first | exact HP2 | (have h := HP2; simpa using h), by first | exact HQ2 | (have h := HQ2; simpa using h)⟩
                    case measure => simp [intOf]; omega
                | true =>
                  cases q with
                  | false =>
                    have l2 := Q2.out _ HB.out
                    go_wp2_with fail
                    refine (HML.out _).mono ?_
                    rintro e W2 ⟨rfl, hb⟩
                    have HB2 := Lib.hid (bel_bl HB.out hb)
                    have HX2 := Lib.hid (HX0.out.bl hb)
                    clear hb l2 cb
                    go_wp2
                    go_roundw
                    case rel => exact ⟨j + 1, bl, false, by omega, by go_num, rfl, rfl, HB2, HX2, by first | exact HP2 | (have h := HP2; simpa using h), by first | exact HQ2 | (have h := HQ2; simpa using h)⟩
                    case measure => simp [intOf]; omega
                  | true =>
                    have l2 := Q2.out _ HB.out
                    go_wp2_with fail
                    refine (HML.out _).mono ?_
                    rintro e W2 ⟨rfl, hb⟩
                    have HB2 := Lib.hid (bel_bl HB.out hb)
                    have HX2 := Lib.hid (HX0.out.bl hb)
                    clear hb l2 cb
                    have l3 := Q3.out _ HB2.out
                    have cb := HX2.out.cell (i := 1) rfl
                    go_wp2_with fail
                    refine (HMA.out _).mono ?_
                    rintro e W3 ⟨rfl, hb⟩
                    have HB3 := Lib.hid (bel_bl HB2.out hb)
                    have HX3 := Lib.hid (HX2.out.bl hb)
                    clear hb l3 cb
                    go_wp2
                    go_roundw
                    case rel => exact ⟨j + 1, bl, ba, by omega, by go_num, rfl, rfl, HB3, HX3, by first | exact HP2 | (have h := HP2; simpa using h), by first | exact HQ2 | (have h := HQ2; simpa using h)⟩
                    case measure => simp [intOf]; omega
              · obtain rfl : m = j := by omega
                have h1 := HP.out
                have h2 := HQ.out
                rw [List.take_of_length_le (by have := Hle.out; omega)] at h1 h2
                cases p with
                | false =>
                  have hr : r = 4 := by
                    rw [← HG.out]
                    simp [h1]
                  subst hr
                  clear h1 h2 HP HQ
                  go_wp2
                  go_ret
                  exact ⟨rfl, HB.out⟩
                | true =>
                  cases q with
                  | false =>
                    have hr : r = 1 := by
                      rw [← HG.out]
                      simp [h1, h2]
                    subst hr
                    clear h1 h2 HP HQ
                    go_wp2
                    go_ret
                    exact ⟨rfl, HB.out⟩
                  | true =>
                    have hr : r = 0 := by
                      rw [← HG.out]
                      simp [h1, h2]
                    subst hr
                    clear h1 h2 HP HQ
                    go_wp2
                    go_ret
                    exact ⟨rfl, HB.out⟩
end Go.Proofs.YtmkflebkifbpfaaGreat
/- What the document asks of rings is what the program asks: each dart of an edge once, and no other. -/
namespace Go.Proofs.YtmkflebkifbpfaaGreat
open Go.RowKit
theorem insD_nodup {d : D} {S : List D} (h : S.Nodup) : (insD d S).Nodup := by
  unfold insD
  split
  · exact h
  · rename_i hn; exact List.nodup_cons.2 ⟨hn, h⟩
theorem insD_mem {d x : D} {S : List D} : x ∈ insD d S ↔ x = d ∨ x ∈ S := by
  unfold insD
  split
  · rename_i hm
    constructor
    · exact .inr
    · rintro (rfl | h)
      · exact hm
      · exact h
  · exact List.mem_cons
theorem edS_nodup : ∀ (Es : List EC) (S : List D), S.Nodup → (edS Es S).Nodup
  | [], S, h => h
  | e :: r, S, h => edS_nodup r _ (insD_nodup (insD_nodup h))
theorem edS_mem : ∀ (Es : List EC) (S : List D) (x : D), x ∈ edS Es S ↔ x ∈ S ∨ ∃ e ∈ Es, x = (e.1.1, e.1.2, 0) ∨ x = (e.1.1, e.1.2, 1)
  | [], S, x => by simp [edS]
  | e :: r, S, x => by
    rw [edS, edS_mem r, insD_mem, insD_mem]
    simp only [List.mem_cons, exists_eq_or_imp]
    constructor
    · rintro ((h | h | h) | h)
      · exact .inr (.inl (.inr h))
      · exact .inr (.inl (.inl h))
      · exact .inl h
      · exact .inr (.inr h)
    · rintro (h | (h | h) | h)
      · exact .inl (.inr (.inr h))
      · exact .inl (.inr (.inl h))
      · exact .inl (.inl h)
      · exact .inr h
theorem onceF_perm : ∀ (rs S : List D), onceF S rs = true ↔ rs.Perm S
  | [], S => by
    simp only [onceF, decide_eq_true_eq]
    constructor
    · intro h
      rw [List.eq_nil_of_length_eq_zero h]
    · intro h
      rw [← h.length_eq]; rfl
  | x :: r, S => by
    rw [onceF]
    by_cases h : x ∈ S
    · rw [if_pos h, onceF_perm r (S.erase x), List.cons_perm_iff_perm_erase]
      exact ⟨fun k => ⟨h, k⟩, fun k => k.2⟩
    · rw [if_neg h]
      constructor
      · intro k; cases k
      · intro k; exact absurd (k.mem_iff.1 (List.mem_cons_self ..)) h
theorem fndE_some (Es : List EC) (x : Int × Int) : (fndE Es x).2 = true ↔ ∃ e ∈ Es, e.1 = x := by
  unfold fndE fnd
  split
  · rename_i v h
    have h1 := List.find?_some h
    have h2 := List.mem_of_find?_eq_some h
    exact ⟨fun _ => ⟨v, h2, by simpa using h1⟩, fun _ => rfl⟩
  · rename_i h
    rw [List.find?_eq_none] at h
    constructor
    · intro k; cases k
    · rintro ⟨e, he, rfl⟩
      exact absurd (by simp) (h e he)
theorem dartOk_mem (Es : List EC) (d : D) : dartOk Es d = true ↔ d ∈ edS Es [] := by
  obtain ⟨a, b, c⟩ := d
  rw [edS_mem, dartOk, Bool.and_eq_true, fndE_some]
  unfold sideOk
  simp only [Bool.and_eq_true, decide_eq_true_eq, List.not_mem_nil, false_or, Prod.mk.injEq]
  constructor
  · rintro ⟨⟨e, he, h1⟩, h2, h3⟩
    have e1 : e.1.1 = a := by rw [h1]
    have e2 : e.1.2 = b := by rw [h1]
    refine ⟨e, he, ?_⟩
    rcases (by omega : c = 0 ∨ c = 1) with h | h
    · exact .inl ⟨e1.symm, e2.symm, h⟩
    · exact .inr ⟨e1.symm, e2.symm, h⟩
  · rintro ⟨e, he, h | h⟩
    · exact ⟨⟨e, he, by rw [h.1, h.2.1]⟩, by omega, by omega⟩
    · exact ⟨⟨e, he, by rw [h.1, h.2.1]⟩, by omega, by omega⟩
theorem count_one {S : List D} (h : S.Nodup) {d : D} (hd : d ∈ S) : S.count d = 1 := by
  induction S with
  | nil => cases hd
  | cons x r ih =>
    rw [List.nodup_cons] at h
    rw [List.count_cons]
    by_cases e : x = d
    · subst e
      rw [List.count_eq_zero.2 h.1]
      simp
    · rcases List.mem_cons.1 hd with rfl | h1
      · exact absurd rfl e
      · rw [ih h.2 h1]
        simp [e]
theorem rings_once (Vs : List VC) (Es : List EC) : ringsF Vs Es = (Vs.all turnOk && onceF (edS Es []) (ringsOf Vs)) := by
  have hS := edS_nodup Es [] List.nodup_nil
  rw [Bool.eq_iff_iff]
  unfold ringsF vertOk
  rw [Bool.and_eq_true, Bool.and_eq_true, onceF_perm, List.all_eq_true, List.all_eq_true, List.all_eq_true]
  constructor
  · rintro ⟨h1, h2⟩
    refine ⟨fun v hv => (Bool.and_eq_true _ _ ▸ h1 v hv).1, ?_⟩
    rw [List.perm_iff_count]
    intro d
    by_cases hd : d ∈ edS Es []
    · rw [count_one hS hd]
      obtain ⟨e, he, h⟩ := (edS_mem Es [] d).1 hd |>.resolve_left (by simp)
      have h3 := h2 e he
      simp only [edgeAt, Bool.and_eq_true, decide_eq_true_eq, timesV] at h3
      rcases h with rfl | rfl
      · exact of_decide_eq_true h3.1
      · exact of_decide_eq_true h3.2
    · rw [List.count_eq_zero.2 hd, List.count_eq_zero]
      intro hm
      obtain ⟨v, hv, hr⟩ := List.mem_flatMap.1 hm
      have h3 := (Bool.and_eq_true _ _ ▸ h1 v hv).2
      exact hd ((dartOk_mem Es d).1 (List.all_eq_true.1 h3 d hr))
  · rintro ⟨h1, h2⟩
    refine ⟨fun v hv => ?_, fun e he => ?_⟩
    · rw [Bool.and_eq_true]
      refine ⟨h1 v hv, List.all_eq_true.2 fun d hd => (dartOk_mem Es d).2 (h2.mem_iff.1 (List.mem_flatMap.2 ⟨v, hv, hd⟩))⟩
    · have hc : ∀ d, d ∈ edS Es [] → (ringsOf Vs).count d = 1 := fun d hd => by
        rw [List.perm_iff_count.1 h2 d]
        exact count_one hS hd
      simp only [edgeAt, Bool.and_eq_true, decide_eq_true_eq, timesV]
      exact ⟨decide_eq_true (hc _ ((edS_mem Es [] _).2 (.inr ⟨e, he, .inl rfl⟩))), decide_eq_true (hc _ ((edS_mem Es [] _).2 (.inr ⟨e, he, .inr rfl⟩)))⟩
theorem formR_eq (Vs : List VC) (Es : List EC) : formR Vs Es = formD Vs Es := by
  unfold formR formD formB
  rw [rings_once]
  simp only [Bool.and_assoc]
end Go.Proofs.YtmkflebkifbpfaaGreat
