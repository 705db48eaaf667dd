/- Form. -/
import Derived.Test.YtdhglhcpgmfpoaaDg7
namespace Go.Proofs.Ytdhglhcpgmfpoaa
open Go.RowKit
set_option linter.unusedSimpArgs false
set_option linter.unusedVariables false

def formB (big b0 b1 b2 b3 b4 b5 b6 b7 : Bool) : Int :=
  if big then 3 else if !(b0 && b1 && b2 && b3) then 10 else if !(b4 && b5) then 4 else if !(b6 && b7) then 1 else 0
/-- What is wrong with a diagram. -/
def formD (Vs : List VC) (Es : List EC) : Int :=
  formB (decide (24 < Vs.length ∨ 40 < Es.length)) (riseF none (Vs.map (·.1))) (riseF none (Es.map (·.1))) (Vs.all turnOk) (onceF (edS Es []) (ringsOf Vs))
    (Vs.all (fun v => mayL v.2.2.1)) (Es.all (fun v => mayL v.2.1)) (Vs.all (fun v => mayA v.2.2.2)) (Es.all (fun v => mayA v.2.2))
set_option maxRecDepth 100000 in
set_option maxHeartbeats 4000000 in
theorem form_any (A : Option Addr) (n c : Nat) (Vs : List VC) (B : Option Addr) (m k : Nat) (Es : List EC) (w : World) (h : DgIn w A n c Vs B m k Es) (hr : ∀ x ∈ Vs, x.2.1.2.1 ≤ 1000000)
    (he : ∀ e ∈ Es, wfD (e.1.1, e.1.2, 0) ∧ wfD (e.1.1, e.1.2, 1)) (hv : ∀ v ∈ Vs, ∀ d ∈ v.2.1.2.2.2, wfD d) :
    Calls Try.prog 12 #[.agg #[.slice A n c, .slice B m k]] w fun e w' => e = .returned (.int .i64 (formD Vs Es)) ∧ Below w.heap.size w w' := by
  have hlv := h.v.rlen vC_len (by decide)
  have hle := h.e.rlen eC_len (by decide)
  unfold formD
  rw [hlv, hle]
  have k0 : n ≤ 24 → m ≤ 40 → ∀ W, Below w.heap.size w W → Calls Try.prog 34 #[.slice A n c, .func (.func 35) #[] #[]] W fun e w' => e = .returned (.bool (riseF none (Vs.map (·.1)))) ∧ Below W.heap.size W w' := fun hn hm W hb => riseV A n c Vs W (h.v.up hb hb.size) (by omega)
  have k1 : n ≤ 24 → m ≤ 40 → ∀ W, Below w.heap.size w W → Calls Try.prog 36 #[.slice B m k, .func (.func 37) #[] #[]] W fun e w' => e = .returned (.bool (riseF none (Es.map (·.1)))) ∧ Below W.heap.size W w' := fun hn hm W hb => riseE B m k Es W (h.e.up hb hb.size) (by omega)
  have k2 : n ≤ 24 → m ≤ 40 → ∀ W, Below w.heap.size w W → Calls Try.prog 38 #[.agg #[.slice A n c, .slice B m k]] W fun e w' => e = .returned (.bool (Vs.all turnOk)) ∧ Below W.heap.size W w' := fun hn hm W hb => turned_all A n c Vs B m k Es W (h.below hb) (by omega) hr
  have k3 : n ≤ 24 → m ≤ 40 → ∀ W, Below w.heap.size w W → Calls Try.prog 39 #[.agg #[.slice A n c, .slice B m k]] W fun e w' => e = .returned (.bool (onceF (edS Es []) (ringsOf Vs))) ∧ Below W.heap.size W w' := fun hn hm W hb => once_any A n c Vs B m k Es W (h.below hb) (by omega) (by omega) hr he hv
  have k4 : n ≤ 24 → m ≤ 40 → ∀ W, Below w.heap.size w W → Calls Try.prog 40 #[.slice A n c, .func (.func 41) #[] #[]] W fun e w' => e = .returned (.bool (Vs.all (fun v => mayL v.2.2.1))) ∧ Below W.heap.size W w' := fun hn hm W hb => allV 41 _ A n c Vs W (h.v.up hb hb.size) (by omega) entVL (fun v _ W' _ => labelV v W')
  have k5 : n ≤ 24 → m ≤ 40 → ∀ W, Below w.heap.size w W → Calls Try.prog 42 #[.slice B m k, .func (.func 43) #[] #[]] W fun e w' => e = .returned (.bool (Es.all (fun v => mayL v.2.1))) ∧ Below W.heap.size W w' := fun hn hm W hb => allE 43 _ B m k Es W (h.e.up hb hb.size) (by omega) entEL (fun v _ W' _ => labelE v W')
  have k6 : n ≤ 24 → m ≤ 40 → ∀ W, Below w.heap.size w W → Calls Try.prog 40 #[.slice A n c, .func (.func 44) #[] #[]] W fun e w' => e = .returned (.bool (Vs.all (fun v => mayA v.2.2.2))) ∧ Below W.heap.size W w' := fun hn hm W hb => allV 44 _ A n c Vs W (h.v.up hb hb.size) (by omega) entVA (fun v _ W' _ => attrV v W')
  have k7 : n ≤ 24 → m ≤ 40 → ∀ W, Below w.heap.size w W → Calls Try.prog 42 #[.slice B m k, .func (.func 45) #[] #[]] W fun e w' => e = .returned (.bool (Es.all (fun v => mayA v.2.2))) ∧ Below W.heap.size W w' := fun hn hm W hb => allE 45 _ B m k Es W (h.e.up hb hb.size) (by omega) entEA (fun v _ W' _ => attrE v W')
  obtain ⟨b0, g0⟩ : ∃ b, riseF none (Vs.map (·.1)) = b := ⟨_, rfl⟩
  rw [g0] at k0 ⊢
  clear g0
  obtain ⟨b1, g1⟩ : ∃ b, riseF none (Es.map (·.1)) = b := ⟨_, rfl⟩
  rw [g1] at k1 ⊢
  clear g1
  obtain ⟨b2, g2⟩ : ∃ b, Vs.all turnOk = b := ⟨_, rfl⟩
  rw [g2] at k2 ⊢
  clear g2
  obtain ⟨b3, g3⟩ : ∃ b, onceF (edS Es []) (ringsOf Vs) = b := ⟨_, rfl⟩
  rw [g3] at k3 ⊢
  clear g3
  obtain ⟨b4, g4⟩ : ∃ b, Vs.all (fun v => mayL v.2.2.1) = b := ⟨_, rfl⟩
  rw [g4] at k4 ⊢
  clear g4
  obtain ⟨b5, g5⟩ : ∃ b, Es.all (fun v => mayL v.2.1) = b := ⟨_, rfl⟩
  rw [g5] at k5 ⊢
  clear g5
  obtain ⟨b6, g6⟩ : ∃ b, Vs.all (fun v => mayA v.2.2.2) = b := ⟨_, rfl⟩
  rw [g6] at k6 ⊢
  clear g6
  obtain ⟨b7, g7⟩ : ∃ b, Es.all (fun v => mayA v.2.2) = b := ⟨_, rfl⟩
  rw [g7] at k7 ⊢
  clear g7
  clear h hr he hv hlv hle
  have hw0 := Whole.new_ w 25 [.slice A n c, .slice B m k]
  have hb0 := below1 w (.cells #[.slice A n c, .slice B m k] 25)
  obtain ⟨W0, gW0⟩ : ∃ z, w.alloc (.cells #[.slice A n c, .slice B m k] 25) = z := ⟨_, rfl⟩
  have HB0 : RowKit.Hid (Below w.heap.size w W0) := Lib.hid (by rw [← gW0]; exact hb0)
  obtain ⟨g, gg⟩ : ∃ z, w.heap.size = z := ⟨_, rfl⟩
  rw [gW0, gg] at hw0
  have c0 := hw0.cell (i := 0) rfl
  have c1 := hw0.cell (i := 1) rfl
  have HW0 := Lib.hid hw0
  by_cases hn : n ≤ 24
  · by_cases hm : m ≤ 40
    · have hbig : decide (24 < n ∨ 40 < m) = false := decide_eq_false (by omega)
      rw [hbig]
      have K0 := Lib.hid (k0 hn hm)
      have K1 := Lib.hid (k1 hn hm)
      have K2 := Lib.hid (k2 hn hm)
      have K3 := Lib.hid (k3 hn hm)
      have K4 := Lib.hid (k4 hn hm)
      have K5 := Lib.hid (k5 hn hm)
      have K6 := Lib.hid (k6 hn hm)
      have K7 := Lib.hid (k7 hn hm)
      clear k0 k1 k2 k3 k4 k5 k6 k7 hbig hw0 hb0
      go_enter Try.func12, Try.ntmps12
      go_wp2_with fail
      clear gW0 gg
      refine (K0.out _ HB0.out).mono ?_
      rintro e W1 ⟨rfl, hb⟩
      have HB1 := Lib.hid (bel_bl HB0.out hb)
      have HW1 := Lib.hid (HW0.out.below hb)
      clear hb c0 c1 HB0 HW0 K0
      have c0 := HW1.out.cell (i := 0) rfl
      have c1 := HW1.out.cell (i := 1) rfl
      cases b0 with
      | false =>
        go_wp2
        go_ret
        exact ⟨rfl, HB1.out⟩
      | true =>
        go_wp2_with fail
        refine (K1.out _ HB1.out).mono ?_
        rintro e W2 ⟨rfl, hb⟩
        have HB2 := Lib.hid (bel_bl HB1.out hb)
        have HW2 := Lib.hid (HW1.out.below hb)
        clear hb c0 c1 HB1 HW1 K1
        have c0 := HW2.out.cell (i := 0) rfl
        have c1 := HW2.out.cell (i := 1) rfl
        cases b1 with
        | false =>
          go_wp2
          go_ret
          exact ⟨rfl, HB2.out⟩
        | true =>
          go_wp2_with fail
          refine (K2.out _ HB2.out).mono ?_
          rintro e W3 ⟨rfl, hb⟩
          have HB3 := Lib.hid (bel_bl HB2.out hb)
          have HW3 := Lib.hid (HW2.out.below hb)
          clear hb c0 c1 HB2 HW2 K2
          have c0 := HW3.out.cell (i := 0) rfl
          have c1 := HW3.out.cell (i := 1) rfl
          cases b2 with
          | false =>
            go_wp2
            go_ret
            exact ⟨rfl, HB3.out⟩
          | true =>
            go_wp2_with fail
            refine (K3.out _ HB3.out).mono ?_
            rintro e W4 ⟨rfl, hb⟩
            have HB4 := Lib.hid (bel_bl HB3.out hb)
            have HW4 := Lib.hid (HW3.out.below hb)
            clear hb c0 c1 HB3 HW3 K3
            have c0 := HW4.out.cell (i := 0) rfl
            have c1 := HW4.out.cell (i := 1) rfl
            cases b3 with
            | false =>
              go_wp2
              go_ret
              exact ⟨rfl, HB4.out⟩
            | true =>
              go_wp2_with fail
              refine (K4.out _ HB4.out).mono ?_
              rintro e W5 ⟨rfl, hb⟩
              have HB5 := Lib.hid (bel_bl HB4.out hb)
              have HW5 := Lib.hid (HW4.out.below hb)
              clear hb c0 c1 HB4 HW4 K4
              have c0 := HW5.out.cell (i := 0) rfl
              have c1 := HW5.out.cell (i := 1) rfl
              cases b4 with
              | false =>
                go_wp2
                go_ret
                exact ⟨rfl, HB5.out⟩
              | true =>
                go_wp2_with fail
                refine (K5.out _ HB5.out).mono ?_
                rintro e W6 ⟨rfl, hb⟩
                have HB6 := Lib.hid (bel_bl HB5.out hb)
                have HW6 := Lib.hid (HW5.out.below hb)
                clear hb c0 c1 HB5 HW5 K5
                have c0 := HW6.out.cell (i := 0) rfl
                have c1 := HW6.out.cell (i := 1) rfl
                cases b5 with
                | false =>
                  go_wp2
                  go_ret
                  exact ⟨rfl, HB6.out⟩
                | true =>
                  go_wp2_with fail
                  refine (K6.out _ HB6.out).mono ?_
                  rintro e W7 ⟨rfl, hb⟩
                  have HB7 := Lib.hid (bel_bl HB6.out hb)
                  have HW7 := Lib.hid (HW6.out.below hb)
                  clear hb c0 c1 HB6 HW6 K6
                  have c0 := HW7.out.cell (i := 0) rfl
                  have c1 := HW7.out.cell (i := 1) rfl
                  cases b6 with
                  | false =>
                    go_wp2
                    go_ret
                    exact ⟨rfl, HB7.out⟩
                  | true =>
                    go_wp2_with fail
                    refine (K7.out _ HB7.out).mono ?_
                    rintro e W8 ⟨rfl, hb⟩
                    have HB8 := Lib.hid (bel_bl HB7.out hb)
                    have HW8 := Lib.hid (HW7.out.below hb)
                    clear hb c0 c1 HB7 HW7 K7
                    have c0 := HW8.out.cell (i := 0) rfl
                    have c1 := HW8.out.cell (i := 1) rfl
                    cases b7 with
                    | false =>
                      go_wp2
                      go_ret
                      exact ⟨rfl, HB8.out⟩
                    | true =>
                      go_wp2
                      go_ret
                      exact ⟨rfl, HB8.out⟩
    · have hbig : decide (24 < n ∨ 40 < m) = true := decide_eq_true (by omega)
      rw [hbig]
      clear k0 k1 k2 k3 k4 k5 k6 k7 hbig hw0 hb0
      go_enter Try.func12, Try.ntmps12
      go_wp2
      go_ret
      exact ⟨rfl, by first | exact HB0.out | (rw [← gg]; exact HB0.out)⟩
  · have hbig : decide (24 < n ∨ 40 < m) = true := decide_eq_true (by omega)
    rw [hbig]
    clear k0 k1 k2 k3 k4 k5 k6 k7 hbig hw0 hb0
    go_enter Try.func12, Try.ntmps12
    go_wp2
    go_ret
    exact ⟨rfl, by first | exact HB0.out | (rw [← gg]; exact HB0.out)⟩
end Go.Proofs.Ytdhglhcpgmfpoaa
