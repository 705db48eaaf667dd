/- Names. -/
import Derived.Test.YtdhglhcpgmfpoaaDg11
namespace Go.Proofs.Ytdhglhcpgmfpoaa
open Go.RowKit
set_option linter.unusedSimpArgs false
set_option linter.unusedVariables false

theorem info_idD : (Try.prog.info? 34).map (fun i => (i.zero, i.size, i.bytes)) = some (some (.agg #[.int .i64 0, .int .i64 0]), 2, 16) := by kernel_rfl
def idC (x : Int × Int) : List Value := [.int .i64 x.1, .int .i64 x.2]
theorem idC_len (x : Int × Int) : (idC x).length = 2 := rfl
theorem names_next {α : Type} (g : α → Int × Int) (P : List (Int × Int)) (L : List α) (j : Nat) (x : α) (h : L[j]? = some x) : rowsV idC (P ++ (L.take j).map g) ++ idC (g x) = rowsV idC (P ++ (L.take (j + 1)).map g) := by
  have : (L.take (j + 1)).map g = (L.take j).map g ++ [g x] := by rw [List.take_add_one, h]; simp
  have e : rowsV idC [g x] = idC (g x) := by simp [rowsV]
  rw [this, ← List.append_assoc, rowsV_app idC (P ++ (L.take j).map g) [g x], e]
set_option maxRecDepth 100000 in
set_option maxHeartbeats 4000000 in
theorem names_any (A : Option Addr) (n c : Nat) (Vs : List VC) (B : Option Addr) (m k : Nat) (Es : List EC) (w : World) (h : DgIn w A n c Vs B m k Es) (hn : n ≤ 1000000) (hm : m ≤ 1000000) :
    Calls Try.prog 26 #[.agg #[.slice A n c, .slice B m k]] w fun e w' => ∃ A' c', e = .returned (.slice A' (n + m) c') ∧ Ow w (w.heap.size + 1) 34 2 (.slice A' (n + m) c') (n + m) (rowsV idC (Vs.map (·.1) ++ Es.map (·.1))) w' := by
  have HV := Lib.hid h.v
  have HE := Lib.hid h.e
  have Hlv := Lib.hid (h.v.rlen vC_len (by decide))
  have Hle := Lib.hid (h.e.rlen eC_len (by decide))
  obtain ⟨i0, hi, hz0, hz1, hz2⟩ := info_partsD info_idD
  clear h
  go_enter Try.func26, Try.ntmps26
  go_wp2
  have hx0 := Whole.new_ w 25 [.slice A n c, .slice B m k]
  have hbl := below1 w (.cells #[.slice A n c, .slice B m k] 25)
  obtain ⟨W0, gW0⟩ : ∃ z, w.alloc (.cells #[.slice A n c, .slice B m k] 25) = z := ⟨_, rfl⟩
  have hsz : w.heap.size + 1 ≤ W0.heap.size := by rw [← gW0]; simp
  rw [gW0] at hx0 hbl
  have HO0 : RowKit.Hid (Ow w (w.heap.size + 1) 34 2 (.slice none 0 0) 0 (rowsV idC ([] ++ (Vs.take 0).map (·.1))) W0) := Lib.hid (Ow.nil_ hbl (by omega) hsz)
  obtain ⟨B2, gB2⟩ : ∃ z, w.heap.size + 1 = z := ⟨_, rfl⟩
  obtain ⟨b0, gb0⟩ : ∃ z, w.heap.size = z := ⟨_, rfl⟩
  have h0B : b0 < B2 := by omega
  rw [gB2] at HO0
  rw [gb0] at hx0
  have HX0 := Lib.hid hx0
  have GB2 := Lib.hid gB2
  rw [gW0, gb0]
  clear hx0 hbl hsz gW0 gB2 gb0
  go_loopw [3, 11] (fun v si wr => ∃ j : Nat, j ≤ n ∧ si = .int .i64 j ∧ RowKit.Hid (Ow w B2 34 2 v j (rowsV idC ([] ++ (Vs.take j).map (·.1))) wr) ∧ RowKit.Hid (Whole wr b0 25 [.slice A n c, .slice B m k])) (fun _ si _ => n - (intOf si).toNat)
  case atStart => exact ⟨0, by omega, rfl, HO0, HX0⟩
  case round =>
    clear HO0 HX0
    obtain ⟨j, hj, rfl, HO, HX⟩ := hrel
    obtain ⟨wo, gwo⟩ : ∃ z, wr = z := ⟨_, rfl⟩
    rw [gwo] at HO HX ⊢
    clear gwo
    by_cases hjn : j < n
    · obtain ⟨x, hx⟩ : ∃ x, Vs[j]? = some x := ⟨_, List.getElem?_eq_getElem (by have := Hlv.out; omega)⟩
      obtain ⟨bb, off, rfl, hbB, hpl⟩ := HV.out.place vC_len (by decide) (by omega)
      have hbw := HO.out.below
      have q0 := hpl j _ hx 0 _ rfl
      have q1 := hpl j _ hx 1 _ rfl
      have q2 := hpl j _ hx 2 _ rfl
      have q3 := hpl j _ hx 3 _ rfl
      have q4 := hpl j _ hx 4 _ rfl
      simp only [Addr.add_lit, Nat.add_zero] at q0 q1 q2 q3 q4
      have l0 := (hbw.cell (p := ⟨bb, off + j * 5, none⟩) hbB).trans q0
      have l1 := (hbw.cell (p := ⟨bb, off + j * 5 + 1, none⟩) hbB).trans q1
      have l2 := (hbw.cell (p := ⟨bb, off + j * 5 + 2, none⟩) hbB).trans q2
      have l3 := (hbw.cell (p := ⟨bb, off + j * 5 + 3, none⟩) hbB).trans q3
      have l4 := (hbw.cell (p := ⟨bb, off + j * 5 + 4, none⟩) hbB).trans q4
      have HNx := Lib.hid (names_next (·.1) [] Vs j x hx)
      obtain ⟨⟨i1, i2⟩, ⟨rA, rn, rc, rL⟩, lb, at_⟩ := x
      clear hx hpl q0 q1 q2 q3 q4 hbB hbw
      go_wp2_with (first
        | (at_builtin
           refine wpList_push2 rfl (.tmp 15) (.tmp 18) _ rfl _ 34 i0 _ 2 16 Try.underlying50 hi hz0 hz1 hz2 rfl (by decide) _ _ _ rfl (by exact HO.out.up (below2 _ _ _)) _ (some ⟨wo.heap.size + 1, 0, none⟩) 1 1 [.int .i64 i1, .int .i64 i2] rfl (by exact RdS.of_whole (Whole.new2 (by simp)) rfl) (by simp [Value.oneCell']) (by unfold maxLen; omega) (by omega) ?_
           intro v1 w1 how1 hb1 hgr
           have HO1 : RowKit.Hid (Ow w B2 34 2 v1 (j + 1) (rowsV idC ([] ++ (Vs.take (j + 1)).map (·.1))) w1) := Lib.hid (by
             have h9 := HNx.out
             rw [← h9]
             exact how1)
           have HX1 : RowKit.Hid (Whole w1 b0 25 [.slice (some ⟨bb, off, none⟩) n c, .slice B m k]) := Lib.hid (((HX.out.alloc _).alloc _).grown hgr (HO.out.low_ne h0B))
           clear how1 hb1 hgr))
      go_roundw
      case rel => exact ⟨j + 1, by omega, by go_num, HO1, HX1⟩
      case measure => simp [intOf]; omega
    · obtain rfl : n = j := by omega
      have HO2 : RowKit.Hid (Ow w B2 34 2 u3 (n + 0) (rowsV idC (Vs.map (·.1) ++ (Es.take 0).map (·.1))) wo) := Lib.hid (by
        have h9 := HO.out
        rw [List.take_of_length_le (by have := Hlv.out; omega), List.nil_append] at h9
        simpa using h9)
      have c1 := HX.out.cell (i := 1) rfl
      clear HO
      go_wp2
      clear c1
      go_loopw [3, 24] (fun v si wr => ∃ j : Nat, j ≤ m ∧ si = .int .i64 j ∧ RowKit.Hid (Ow w B2 34 2 v (n + j) (rowsV idC (Vs.map (·.1) ++ (Es.take j).map (·.1))) wr)) (fun _ si _ => m - (intOf si).toNat)
      case atStart => exact ⟨0, by omega, rfl, HO2⟩
      case round =>
        clear HO2 HX
        obtain ⟨j, hj2, rfl, HO⟩ := hrel
        obtain ⟨wi, gwi⟩ : ∃ z, wr = z := ⟨_, rfl⟩
        rw [gwi] at HO ⊢
        clear gwi
        by_cases hjm : j < m
        · obtain ⟨x, hx⟩ : ∃ x, Es[j]? = some x := ⟨_, List.getElem?_eq_getElem (by have := Hle.out; omega)⟩
          obtain ⟨bb, off, rfl, hbB, hpl⟩ := HE.out.place eC_len (by decide) (by omega)
          have hbw := HO.out.below
          have q0 := hpl j _ hx 0 _ rfl
          have q1 := hpl j _ hx 1 _ rfl
          have q2 := hpl j _ hx 2 _ rfl
          have q3 := hpl j _ hx 3 _ rfl
          simp only [Addr.add_lit, Nat.add_zero] at q0 q1 q2 q3
          have l0 := (hbw.cell (p := ⟨bb, off + j * 4, none⟩) hbB).trans q0
          have l1 := (hbw.cell (p := ⟨bb, off + j * 4 + 1, none⟩) hbB).trans q1
          have l2 := (hbw.cell (p := ⟨bb, off + j * 4 + 2, none⟩) hbB).trans q2
          have l3 := (hbw.cell (p := ⟨bb, off + j * 4 + 3, none⟩) hbB).trans q3
          have HNx := Lib.hid (names_next (·.1) (Vs.map (·.1)) Es j x hx)
          obtain ⟨⟨i1, i2⟩, lb, at_⟩ := x
          clear hx hpl q0 q1 q2 q3 hbB hbw
          go_wp2_with (first
            | (at_builtin
               refine wpList_push2 rfl (.tmp 28) (.tmp 31) _ rfl _ 34 i0 _ 2 16 Try.underlying50 hi hz0 hz1 hz2 rfl (by decide) _ _ _ rfl (by exact HO.out.up (below2 _ _ _)) _ (some ⟨wi.heap.size + 1, 0, none⟩) 1 1 [.int .i64 i1, .int .i64 i2] rfl (by exact RdS.of_whole (Whole.new2 (by simp)) rfl) (by simp [Value.oneCell']) (by unfold maxLen; omega) (by omega) ?_
               intro v1 w1 how1 hb1 hgr
               have HO1 : RowKit.Hid (Ow w B2 34 2 v1 (n + (j + 1)) (rowsV idC (Vs.map (·.1) ++ (Es.take (j + 1)).map (·.1))) w1) := Lib.hid (by
                 have h9 := HNx.out
                 rw [← h9]
                 exact how1)
               clear how1 hb1 hgr))
          go_roundw
          case rel => exact ⟨j + 1, by omega, by go_num, HO1⟩
          case measure => simp [intOf]; omega
        · obtain rfl : m = j := by omega
          have ho := HO.out
          rw [List.take_of_length_le (by have := Hle.out; omega)] at ho
          obtain ⟨A', c', rfl, -⟩ := ho.rds
          have HO3 := Lib.hid ho
          clear HO ho
          go_wp2
          go_ret
          refine ⟨A', c', rfl, ?_⟩
          first | exact HO3.out | (rw [GB2.out]; exact HO3.out)
end Go.Proofs.Ytdhglhcpgmfpoaa
