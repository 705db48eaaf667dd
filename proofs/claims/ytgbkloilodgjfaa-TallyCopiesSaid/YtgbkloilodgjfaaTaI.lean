/- The contract of traceryref02.Ints: whether two slices read alike. -/
import Derived.Test.YtgbkloilodgjfaaTaH
import Derived.Test.YtgbkloilodgjfaaMem
namespace Go.Proofs.Ytgbkloilodgjfaa
open Go.RowKit

/-- The cells of a slice of ints. -/
theorem RdS.addr {w : World} {B n c : Nat} {A : Option Addr} {L : List Int} (h : RdS w B 1 A n c (ints L)) (hn : 0 < n) :
    ∃ b off, A = some ⟨b, off, none⟩ ∧ b < B ∧ ∀ k, k < L.length → w.cell? ⟨b, off + k, none⟩ = some (.int .i64 (L.getD k 0)) := by
  have hl : L.length = n := by simpa [ints] using h.len
  cases A with
  | none => exact absurd (h.none_ rfl).1 (by omega)
  | some a =>
    have h0 := h.cell a rfl 0 _ (ints_at L 0 (by omega))
    have ha : ∃ b off, a = ⟨b, off, none⟩ := by
      obtain ⟨b, off, f⟩ := a
      cases f with
      | none => exact ⟨b, off, rfl⟩
      | some f =>
        simp [Addr.add, World.cell?] at h0
        split at h0 <;> cases h0
    obtain ⟨b, off, rfl⟩ := ha
    refine ⟨b, off, rfl, h.low _ rfl hn, fun k hk => ?_⟩
    have e1 := h.cell _ rfl _ _ (ints_at L k hk)
    rwa [Addr.add_lit] at e1

theorem RdS.whole {w : World} {h : Nat} {t : TypeId} {L : List Int} (hw : Whole w h t (ints L)) : RdS w w.heap.size 1 (some ⟨h, 0, none⟩) L.length L.length (ints L) :=
  ⟨by simp [ints], fun e => (by cases e), Nat.le_refl _, fun a e _ => (by obtain rfl := Option.some.inj e; exact hw.lt), fun a e j u hj => (by
    obtain rfl := Option.some.inj e
    rw [Addr.add_lit]
    simpa using hw.cell hj)⟩

theorem take_eq_snoc {L M : List Int} {k : Nat} (hl : L.length = M.length) (hk : k < L.length) (h : L.take k = M.take k) : L.take (k + 1) = M.take (k + 1) ↔ L.getD k 0 = M.getD k 0 := by
  have hk' : k < M.length := by omega
  rw [List.take_succ_eq_append_getElem hk, List.take_succ_eq_append_getElem hk', h, List.append_right_inj]
  simp [hk, hk']

theorem ints_same (A A' : Option Addr) (n m c c' : Nat) (L M : List Int) (w : World) (h : RdS w w.heap.size 1 A n c (ints L)) (h' : RdS w w.heap.size 1 A' m c' (ints M)) (hn : n ≤ 9223372036854775807) :
    Calls Try.prog 20 #[.slice A n c, .slice A' m c'] w fun e w' => e = .returned (.bool (decide (L = M))) ∧ Below w.heap.size w w' := by
  have hl : L.length = n := by simpa [ints] using h.len
  have hm : M.length = m := by simpa [ints] using h'.len
  by_cases he : n = m
  · subst he
    by_cases h0 : n = 0
    · subst h0
      have e : decide (L = M) = true := by
        rw [List.eq_nil_of_length_eq_zero hl, List.eq_nil_of_length_eq_zero hm]
        rfl
      rw [e]
      clear h h' hl hm e
      go_enter Try.func20, Try.ntmps20
      go_wp2
      refine wp_loop_rounds 1 ?_
      rw [rounds_succ]
      go_wp2
      go_ret
      exact ⟨rfl, Below.refl _ _⟩
    · obtain ⟨b, off, rfl, hb, hc⟩ := h.addr (by omega)
      obtain ⟨b', off', rfl, hb', hc'⟩ := h'.addr (by omega)
      have HC := Lib.hid hc
      have HC' := Lib.hid hc'
      have HL := Lib.hid hl
      have HM := Lib.hid hm
      clear h h' hc hc' hl hm
      go_enter Try.func20, Try.ntmps20
      go_wp2
      go_loopw [5] (fun i wr => ∃ k : Nat, k ≤ n ∧ i = .int .i64 k ∧ L.take k = M.take k ∧ Below w.heap.size w wr) (fun i _ => n - (intOf i).toNat)
      case atStart => exact ⟨0, Nat.zero_le _, rfl, rfl, Below.refl _ _⟩
      case round =>
        obtain ⟨k, hk, rfl, he, hbw⟩ := hrel
        have HE := Lib.hid he
        clear he
        by_cases hlt : k < n
        · have c1 : wr.cell? ⟨b, off + k, none⟩ = some (.int .i64 (L.getD k 0)) := (hbw.cell hb).trans (HC.out k (by rw [HL.out]; exact hlt))
          have c2 : wr.cell? ⟨b', off' + k, none⟩ = some (.int .i64 (M.getD k 0)) := (hbw.cell hb').trans (HC'.out k (by rw [HM.out]; exact hlt))
          have HT := Lib.hid (take_eq_snoc (by rw [HL.out, HM.out]) (by rw [HL.out]; exact hlt) HE.out)
          obtain ⟨u, gu⟩ : ∃ u, L.getD k 0 = u := ⟨_, rfl⟩
          obtain ⟨v, gv⟩ : ∃ v, M.getD k 0 = v := ⟨_, rfl⟩
          rw [gu] at c1
          rw [gv] at c2
          have GU := Lib.hid gu
          have GV := Lib.hid gv
          clear gu gv
          by_cases hd : u = v
          · have e1 : (u != v) = false := by simpa using hd
            have HD := Lib.hid hd
            clear hd
            go_wp2
            go_quiet (fail)
            go_wp2
            go_roundw
            case rel => exact ⟨k + 1, by omega, by go_num, HT.out.2 (by rw [GU.out, GV.out, HD.out]), ⟨hbw.os, hbw.tape, hbw.output, hbw.size, hbw.block⟩⟩
            case measure => simp [intOf]; omega
          · have e1 : (u != v) = true := by simpa using hd
            have HD := Lib.hid hd
            clear hd
            go_wp2
            go_quiet (fail)
            go_wp2
            go_ret
            refine ⟨?_, ⟨hbw.os, hbw.tape, hbw.output, hbw.size, hbw.block⟩⟩
            have hne : decide (L = M) = false := by
              simp only [decide_eq_false_iff_not]
              rintro rfl
              exact HD.out (by rw [← GU.out, ← GV.out])
            rw [hne]
            rfl
        · go_wp2
          go_ret
          refine ⟨?_, hbw⟩
          have hee : decide (L = M) = true := by
            simp only [decide_eq_true_eq]
            have h1 := HE.out
            rwa [List.take_of_length_le (by rw [HL.out]; omega), List.take_of_length_le (by rw [HM.out]; omega)] at h1
          rw [hee]
          rfl
  · have e : decide (L = M) = false := by
      simp only [decide_eq_false_iff_not]
      rintro rfl
      omega
    rw [e]
    have h1 : ((n : Int) != (m : Int)) = true := by simp; omega
    clear h h' hl hm e he
    go_enter Try.func20, Try.ntmps20
    go_wp2
    go_ret
    exact ⟨rfl, Below.refl _ _⟩
end Go.Proofs.Ytgbkloilodgjfaa
