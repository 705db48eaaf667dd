/- All darts. -/
import Derived.Test.YtpindjknngcccaaFc6
namespace Go.Proofs.Ytpindjknngcccaa
open Go.RowKit
set_option linter.unusedSimpArgs false
set_option linter.unusedVariables false


/-- The darts of the first j vertices. -/
def dsV (L : List VC) : List D := L.flatMap (·.2.1.2.2.2)
theorem dsV_next (L : List VC) (j : Nat) (x : VC) (h : L[j]? = some x) : dsV (L.take (j + 1)) = dsV (L.take j) ++ x.2.1.2.2.2 := by
  unfold dsV
  rw [List.take_add_one, h, List.flatMap_append]
  simp
theorem dsV_len (L : List VC) (h : ∀ x ∈ L, x.2.1.2.2.2.length ≤ 1000000) : (dsV L).length ≤ L.length * 1000000 := by
  induction L with
  | nil => simp [dsV]
  | cons v L ih =>
    have h1 := h v (List.mem_cons_self ..)
    have h2 := ih (fun x hx => h x (List.mem_cons_of_mem _ hx))
    unfold dsV at *
    rw [List.flatMap_cons, List.length_append, List.length_cons]
    omega
set_option maxRecDepth 100000 in
set_option maxHeartbeats 4000000 in
theorem darts_any (A : Option Addr) (n c : Nat) (Vs : List VC) (B : Option Addr) (m k : Nat) (Es : List EC) (w : World) (h : DgIn w A n c Vs B m k Es) (hn : n ≤ 1000000) (hr : ∀ x ∈ Vs, x.2.1.2.1 ≤ 1000000) :
    Calls Try.prog 65 #[.agg #[.slice A n c, .slice B m k]] w fun e w' => ∃ A' c', e = .returned (.slice A' (dsV Vs).length c') ∧ w'.ownsRow (w.heap.size + 1) 39 3 (.slice A' (dsV Vs).length c') (dsV Vs).length (dartsV (sortD (dsV Vs))) ∧ Below w.heap.size w w' := by
  have HV := Lib.hid h.v
  have HRg := Lib.hid h.r
  have Hlv := Lib.hid (h.v.rlen vC_len (by decide))
  have Hhr := Lib.hid hr
  obtain ⟨i0, hi, hz0, hz1, hz2⟩ := info_partsD info_dartD
  clear h hr
  go_enter Try.func65, Try.ntmps65
  go_upto_region 2 with fail
  have hx0 : Whole (w.alloc (.cells #[.slice A n c, .slice B m k] 25)) (w.heap.size) 25 [.slice A n c, .slice B m k] := (Whole.new_ w 25 [.slice A n c, .slice B m k])
  have hbl : Below w.heap.size w (w.alloc (.cells #[.slice A n c, .slice B m k] 25)) := (below1 w (.cells #[.slice A n c, .slice B m k] 25))
  have hsz : w.heap.size + 1 ≤ ((w.alloc (.cells #[.slice A n c, .slice B m k] 25))).heap.size := by simp
  obtain ⟨W0, gW0⟩ : ∃ z, (w.alloc (.cells #[.slice A n c, .slice B m k] 25)) = z := ⟨_, rfl⟩
  rw [gW0] at hx0 hbl hsz
  obtain ⟨b0, gb0⟩ : ∃ z, w.heap.size = z := ⟨_, rfl⟩
  rw [gb0] at hx0
  have HX0 := Lib.hid hx0
  have HB0 := Lib.hid hbl
  have HS0 := Lib.hid hsz
  have Gb0 := Lib.hid gb0
  have Lb0 : RowKit.Hid (w.heap.size ≤ b0) := Lib.hid (by omega)
  rw [gW0, gb0]
  clear gW0 hbl hsz hx0 gb0
  have HO0 : RowKit.Hid (Ow w (b0 + 1) 39 3 (.slice none 0 0) (dsV (Vs.take 0)).length (dartsV (dsV (Vs.take 0))) W0) := Lib.hid (Ow.nil_ HB0.out (by have := Gb0.out; omega) (by have := HS0.out; have := Gb0.out; omega))
  have c0 := HX0.out.cell (i := 0) rfl
  have HGb := Gb0
  go_wp2
  clear c0
  go_loopw [3, 9] (fun v si wr => ∃ j : Nat, j ≤ n ∧ si = .int .i64 j ∧ RowKit.Hid (Ow w (b0 + 1) 39 3 v (dsV (Vs.take j)).length (dartsV (dsV (Vs.take j))) wr)) (fun _ si _ => n - (intOf si).toNat)
  case atStart => exact ⟨0, by omega, rfl, HO0⟩
  case round =>
    clear HO0
    obtain ⟨j, hj, rfl, HO⟩ := hrel
    obtain ⟨wo, gwo⟩ : ∃ z, wr = z := ⟨_, rfl⟩
    rw [gwo] at HO ⊢
    clear gwo
    by_cases hjn : j < n
    · obtain ⟨v, hx⟩ : ∃ v, Vs[j]? = some v := ⟨_, List.getElem?_eq_getElem (by have := Hlv.out; omega)⟩
      have hnx := dsV_next Vs j v hx
      have hvm := List.mem_of_getElem? hx
      have hrg := HRg.out v hvm
      have hrn := Hhr.out v hvm
      have hbd : (dsV (Vs.take j)).length ≤ j * 1000000 := by
        have q := dsV_len (Vs.take j) (fun x hx => by have q1 := Hhr.out x (List.mem_of_mem_take hx); have q2 := (HRg.out x (List.mem_of_mem_take hx)).2.dlen; omega)
        rw [List.length_take] at q
        exact Nat.le_trans q (Nat.mul_le_mul_right _ (Nat.min_le_left _ _))
      obtain ⟨bb, off, rfl, hbB, hpl⟩ := HV.out.place vC_len (by decide) (by omega)
      have HBo : RowKit.Hid (Below w.heap.size w wo) := Lib.hid HO.out.below
      have hbw := HBo.out
      have q0 := hpl j _ hx 0 _ rfl
      have q1 := hpl j _ hx 1 _ rfl
      have q2 := hpl j _ hx 2 _ rfl
      have q3 := hpl j _ hx 3 _ rfl
      have q4 := hpl j _ hx 4 _ rfl
      simp only [Addr.add_lit, Nat.add_zero] at q0 q1 q2 q3 q4
      have l0 := (hbw.cell (p := ⟨bb, off + j * 5, none⟩) hbB).trans q0
      have l1 := (hbw.cell (p := ⟨bb, off + j * 5 + 1, none⟩) hbB).trans q1
      have l2 := (hbw.cell (p := ⟨bb, off + j * 5 + 2, none⟩) hbB).trans q2
      have l3 := (hbw.cell (p := ⟨bb, off + j * 5 + 3, none⟩) hbB).trans q3
      have l4 := (hbw.cell (p := ⟨bb, off + j * 5 + 4, none⟩) hbB).trans q4
      clear hbw q0 q1 q2 q3 q4
      obtain ⟨⟨i1, i2⟩, ⟨rA, rn, rc, rL⟩, lb, at_⟩ := v
      replace hrn : rn ≤ 1000000 := hrn
      have HR : RowKit.Hid (RdS w w.heap.size 3 rA rn rc (dartsV rL)) := Lib.hid hrg.2
      have hlr : rL.length = rn := HR.out.dlen
      have HNx := Lib.hid hnx
      have hln : (dsV (Vs.take (j + 1))).length = (dsV (Vs.take j)).length + rn := by rw [hnx, List.length_append]; show _ + rL.length = _; rw [hlr]
      have HLn := Lib.hid hln
      have HL1 := Lib.hid hlr
      obtain ⟨s, gs⟩ : ∃ z, (dsV (Vs.take j)).length = z := ⟨_, rfl⟩
      rw [gs] at HO hbd HLn
      clear hx hpl hbB hnx hln gs hrg hlr
      go_wp2_with (first
        | (at_builtin
           refine wpList_push2 rfl (.tmp 13) (.tmp 15) _ rfl _ 39 i0 _ 3 24 Try.underlying40 hi hz0 hz1 hz2 rfl (by decide) _ _ _ rfl (by exact HO.out.up (below1 _ _)) w.heap.size rA rn rc (dartsV rL) rfl (by exact (HR.out.up (bel_al HBo.out _) (Nat.le_refl _))) (dartsV_one rL) (by unfold maxLen; omega) (by omega) ?_
           intro v1 w1 how1 hb1 hgr
           have HO1 : RowKit.Hid (Ow w (b0 + 1) 39 3 v1 (dsV (Vs.take (j + 1))).length (dartsV (dsV (Vs.take (j + 1)))) w1) := Lib.hid (by
             rw [HLn.out, HNx.out, dartsV_app]
             exact how1)
           clear how1 hb1 hgr))
      go_roundw
      case rel => exact ⟨j + 1, by omega, by go_num, HO1⟩
      case measure => simp [intOf] <;> omega
    · obtain rfl : n = j := by omega
      have ho := HO.out
      rw [List.take_of_length_le (by have := Hlv.out; omega)] at ho
      have hbd : (dsV Vs).length ≤ n * 1000000 := by
        have q := dsV_len Vs (fun x hx => by have q1 := Hhr.out x hx; have q2 := (HRg.out x hx).2.dlen; omega)
        rw [Hlv.out] at q
        exact q
      obtain ⟨A', c', rfl, -⟩ := ho.rds
      have HSo := Lib.hid (sortD_any (dsV Vs) _ _ _ A' wo ho.own (by omega))
      have HBo := Lib.hid ho.below
      have hlt := ho.own.lt
      have Hlt : RowKit.Hid (∀ g, (Value.slice A' (dsV Vs).length c').ownBlock = some g → w.heap.size ≤ g) := Lib.hid (fun g e => by have := (hlt g e).1; have := Gb0.out; omega)
      have HFin : RowKit.Hid (b0 + 1 = w.heap.size + 1) := Lib.hid (by rw [← Gb0.out])
      clear HO ho hlt
      go_wp2_with (go_at_call 81; refine HSo.out.mono ?_; rintro e w' ⟨rfl, h1, h2⟩; have H1 := Lib.hid h1; have H2 := Lib.hid h2; clear h1 h2)
      go_ret
      exact ⟨A', c', rfl, by rw [← HFin.out]; exact H1.out, HBo.out.grown H2.out HBo.out.size (fun g e => Hlt.out g e)⟩
end Go.Proofs.Ytpindjknngcccaa
