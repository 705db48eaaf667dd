/- The contract of a tally's Clone. -/
import Derived.Test.YtgbkloilodgjfaaTaF
namespace Go.Proofs.Ytgbkloilodgjfaa
open Go.RowKit

theorem kn_len (L : List Int) (h : L.length ≤ 64) : kn (L.length : Int) = L.length := by unfold kn; omega

theorem clo_start {w x y : World} {b c h : Nat} {go g1 : Option Nat} {L : List Int} (hn : L.length ≤ 64) (ht : Tl w b go L) (hc0 : w.heap.size ≤ c) (hc : Tl x c none (List.replicate (kn (L.length : Int)) 0)) (hx : Below w.heap.size w x)
    (_hh : x.heap.size ≤ h) (hrow : Whole y h 3 (ints L)) (ht2 : Tl y b g1 L) (hs : Stp x y b go g1) : CloIn w b c h y.heap.size go g1 L 0 y := by
  have htx := ht.below hx
  have hbc : c ≠ b := by
    have := ht.kinds.2
    omega
  refine ⟨hc0, Nat.le_trans hx.size hs.k.size, fun z e => (ht2.lt.2 z e), hrow, ht2, (Stp.below hx).trans hs, ⟨none, ?_, fun z e => by cases e⟩, Nat.le_refl _⟩
  have h1 := hc.far htx hs.k hbc (.inl rfl)
  rw [kn_len L hn] at h1
  simpa using h1

set_option maxHeartbeats 800000 in
theorem ta_clone (b : Nat) (go : Option Nat) (L : List Int) (w : World) (h : Tl w b go L) : Calls Try.prog 15 #[.pointer (some ⟨b, 0, none⟩)] w (GivesClone w b go L) := by
  have HN := Lib.hid (ta_new (L.length : Int))
  have HA := Lib.hid (fun W g h => ta_all b g L W h)
  have HC := Lib.hid (fun c g L' W h => ta_cells c g L' W h)
  obtain ⟨c0, hlt⟩ := h.kinds
  have hn := h.len
  have H := Lib.hid h
  clear h
  go_enter Try.func15, Try.ntmps15
  go_wp2_with (first
    | (go_at_call 13; refine (HN.out _).mono ?_; rintro e w1 ⟨c, rfl, hc, htc, hb1⟩; have HTc := Lib.hid htc; have HB1 := Lib.hid hb1; clear htc hb1)
    | (go_at_call 21; refine (HA.out _ _ (by exact H.out.below HB1.out)).mono ?_; rintro e w2 ⟨h, rfl, hh, hrow, g1, ht2, hs2⟩; have HI := Lib.hid (clo_start hn H.out hc HTc.out HB1.out hh hrow ht2 hs2); clear hrow ht2 hs2))
  obtain ⟨M, hM⟩ : ∃ M, w2.heap.size = M := ⟨_, rfl⟩
  rw [hM] at HI
  clear hM
  go_loopw [14] (fun i wr => ∃ k : Nat, k ≤ L.length ∧ i = .int .i64 k ∧ CloIn w b c h M go g1 L k wr) (fun i _ => L.length - (intOf i).toNat)
  case atStart => exact ⟨0, Nat.zero_le _, rfl, HI.out⟩
  case round =>
    obtain ⟨k, hk, rfl, hI⟩ := hrel
    by_cases hlt2 : k < L.length
    · obtain ⟨gc, htc, hgM⟩ := hI.n
      have cc := hI.row.cell (ints_at L k hlt2)
      obtain ⟨v, gv⟩ : ∃ v, L.getD k 0 = v := ⟨_, rfl⟩
      rw [gv] at cc
      have GV := Lib.hid gv
      have HK := Lib.hid hI
      have HT := Lib.hid htc
      have HG := Lib.hid hgM
      have hfl := fill_length L k hk
      have HFL := Lib.hid hfl
      clear hI htc hgM gv hfl
      have HCk := Lib.hid (by have := HC.out c gc _ wr HT.out; unfold GivesCells at this; rw [HFL.out] at this; exact this)
      go_wp2_with (first
        | (go_at_call 43; refine (HCk.out).mono ?_; rintro e w3 ⟨g, rfl, ht3, hs3⟩
           have HN3 := Lib.hid (CloIn.next HK.out hlt2 HT.out HG.out ht3 hs3 hlt)
           have hst := run_call_store (P := Try.prog) Try.func56 (by kernel_rfl) (by kernel_rfl) (by kernel_rfl) (by kernel_rfl) (k := .i64) (y := v) (ht3.at_ k (by rw [HFL.out]; exact hlt2)) (ht3.free k)
           clear ht3 hs3)
        | (go_at_call 44; go_in))
      all_goals try (first | go_end0 | skip)
      go_wp2
      go_roundw
      case rel =>
        refine ⟨k + 1, by omega, by go_num, ?_⟩
        have := HN3.out
        rw [GV.out] at this
        exact this
      case measure => simp [intOf]; omega
    · obtain rfl : k = L.length := by omega
      obtain ⟨gc, htc, hgM⟩ := hI.n
      have HK := Lib.hid hI
      have HT := Lib.hid htc
      have HG := Lib.hid hgM
      clear hI htc hgM
      go_wp2
      go_ret
      have hI := HK.out
      refine ⟨c, gc, g1, rfl, hI.c0, fun x e => Nat.le_trans hI.m0 (HG.out x e), ?_, ?_, hI.t, hI.s⟩
      · cases gc with
        | none => exact .inl rfl
        | some x =>
          refine .inr fun e => ?_
          have := HG.out x rfl
          have := hI.old x e.symm
          omega
      · have := HT.out
        simpa using this
end Go.Proofs.Ytgbkloilodgjfaa
