/- The document's answer for Next. -/
import Derived.Test.YtedihfggijcciaaIdE
namespace Go.Proofs.Ytedihfggijcciaa
open Go.RowKit
set_option linter.unusedSimpArgs false

theorem keepc_ {W w2 : World} {p : Addr} {v : Value} (hb : Below W.heap.size W w2) (h : W.cell? p = some v) : w2.cell? p = some v := (hb.cell (World.block_lt_of_cell? W p h)).trans h

/-- What stands behind the loop: the result's block as it was made. -/
structure RnIn (w wr : World) : Prop where
  e : Below (w.heap.size + 1) (w.alloc (.cells #[.int .i64 0, .int .i64 0] 23)) wr
theorem RnIn.lt {w wr : World} (h : RnIn w wr) : w.heap.size < wr.heap.size := by
  have := h.e.size
  simp at this
  omega
theorem RnIn.c0 {w wr : World} (h : RnIn w wr) : wr.cell? ⟨w.heap.size, 0, none⟩ = some (.int .i64 0) := (h.e.cell (by simp)).trans (by go_simp)
theorem RnIn.c1 {w wr : World} (h : RnIn w wr) : wr.cell? ⟨w.heap.size, 1, none⟩ = some (.int .i64 0) := (h.e.cell (by simp)).trans (by go_simp)
theorem RnIn.f0 {w wr : World} (h : RnIn w wr) : wr.frozen? ⟨w.heap.size, 0, none⟩ = false := (h.e.frozen (by simp)).trans (by go_simp)
theorem RnIn.f1 {w wr : World} (h : RnIn w wr) : wr.frozen? ⟨w.heap.size, 1, none⟩ = false := (h.e.frozen (by simp)).trans (by go_simp)
theorem RnIn.up {w wr y : World} (h : RnIn w wr) (hb : Below wr.heap.size wr y) : RnIn w y := ⟨h.e.trans (hb.mono (by have := h.e.size; simp at this; omega))⟩
theorem RnIn.below {w wr : World} (h : RnIn w wr) : Below w.heap.size w wr := (below1 w _).trans (h.e.mono (by omega))

set_option maxRecDepth 100000 in
set_option maxHeartbeats 1000000 in
theorem rnext_end (site g : Int) (A : Option Addr) (n c : Nat) (l : List (Int × Int)) (w : World) (h : RdS w w.heap.size 2 A n c (namesV l)) (hn : n ≤ 1048576) (mb : Bool) (hm : mayI site (gmax site l + 1) = mb) (hg : gmax site l = g) :
    Calls Try.prog 25 #[.slice A n c, .int .i64 site] w fun e w' => e = .returned (if mb = true then .agg #[.int .i64 site, .int .i64 (g + 1)] else .agg #[.int .i64 0, .int .i64 0]) ∧ Below w.heap.size w w' := by
  have hgb := gmax_bd site l
  rw [hg] at hm hgb
  have HMM := rmay_any site (g + 1)
  rw [hm] at HMM
  have HM := Lib.hid (fun W => HMM W)
  have HG := Lib.hid hg
  have H := Lib.hid h
  have hl : n ≠ 0 → ∃ b off, A = some ⟨b, off, none⟩ := fun h0 => by
    obtain ⟨_, b, off, e, _⟩ := h.names_at (by omega)
    exact ⟨b, off, e⟩
  have HL := Lib.hid hl
  have hlen : l.length = n := by
    have := h.len
    rw [namesV_length] at this
    omega
  have HN := Lib.hid hlen
  clear h hg HMM hm hl hlen
  cases mb
  · simp only [Bool.false_eq_true, if_false]
    go_enter Try.func25, Try.ntmps25
    go_wp2
    go_loopw [5, 6] (fun v i wr => ∃ k : Nat, k ≤ n ∧ i = .int .i64 k ∧ v = .int .i64 (gmax site (l.take k)) ∧ RnIn w wr) (fun _ i _ => n - (intOf i).toNat)
    case atStart => exact ⟨0, Nat.zero_le _, rfl, rfl, ⟨Below.refl _ _⟩⟩
    case round =>
      obtain ⟨k, hk, rfl, rfl, hI⟩ := hrel
      by_cases hlt : k < n
      · obtain ⟨_, b, off, rfl, hb, hc⟩ := H.out.names_at (by omega)
        have Hs := Lib.hid (gmax_snoc site l k (by have := HN.out; omega))
        obtain ⟨c1, c2⟩ := hc k (by have := HN.out; omega)
        have hbd := gmax_bd site (l.take k)
        generalize hp : l[k]'(by have := HN.out; omega) = p at c1 c2 Hs
        generalize gmax site (l.take k) = q at *
        clear hp hc
        have d1 : wr.cell? ⟨b, off + k * 2, none⟩ = some (.int .i64 p.1) := (hI.below.cell hb).trans c1
        have d2 : wr.cell? ⟨b, off + k * 2 + 1, none⟩ = some (.int .i64 p.2) := (hI.below.cell hb).trans c2
        have hbw := World.block_lt_of_cell? _ _ d1
        clear c1 c2
        have hm := rmay_any p.1 p.2
        cases hmay : mayI p.1 p.2
        · rw [hmay] at hm
          have Hm := Lib.hid hm
          have Hn := Lib.hid hmay
          clear hm hmay
          go_wp2_with (first | (go_at_call 12; refine (Hm.out _).mono ?_; rintro e w' ⟨rfl, hb1⟩; obtain ⟨hc, hf⟩ := bcell hb1))
          go_roundw
          case rel =>
            refine ⟨k + 1, by omega, by go_num, ?_, hI.up hb1⟩
            rw [Hs.out, gstep, if_neg (fun e => by rw [Hn.out] at e; cases e.2)]
          case measure => simp [intOf]; omega
        · rw [hmay] at hm
          have Hm := Lib.hid hm
          have Hn := Lib.hid hmay
          clear hm hmay
          by_cases hs : p.1 = site
          · have Hs1 := Lib.hid hs
            have hs' : (p.1 == site) = true := by simpa using hs
            clear hs
            go_wp2_with (first | (go_at_call 12; refine (Hm.out _).mono ?_; rintro e w' ⟨rfl, hb1⟩; obtain ⟨hc, hf⟩ := bcell hb1))
            go_roundw
            case rel =>
              refine ⟨k + 1, by omega, by go_num, ?_, hI.up hb1⟩
              rw [Hs.out, show gstep site q p = max q p.2 from if_pos ⟨Hs1.out, Hn.out⟩, imax]
            case measure => simp [intOf]; omega
          · have hs' : (p.1 == site) = false := by simpa using hs
            go_wp2_with (first | (go_at_call 12; refine (Hm.out _).mono ?_; rintro e w' ⟨rfl, hb1⟩; obtain ⟨hc, hf⟩ := bcell hb1))
            go_roundw
            case rel =>
              refine ⟨k + 1, by omega, by go_num, ?_, hI.up hb1⟩
              rw [Hs.out, gstep, if_neg (fun e => hs e.1)]
            case measure => simp [intOf]; omega
      · rw [List.take_of_length_le (by have := HN.out; omega), HG.out] at *
        have y0 := hI.c0
        have y1 := hI.c1
        have y2 := hI.f0
        have y3 := hI.f1
        have y4 := hI.lt
        go_wp2_with (go_at_call 12; refine (HM.out _).mono ?_; rintro e w2 ⟨rfl, hb2⟩; have Z := (hI.up (below1 _ _)).up hb2; have d0 := Z.c0; have d1 := Z.c1; have d2 := Z.f0; have d3 := Z.f1; have p0 : w2.cell? ⟨wr.heap.size, 0, none⟩ = some (.int .i64 site) := keepc_ hb2 (by go_simp); have p1 : w2.cell? ⟨wr.heap.size, 1, none⟩ = some (.int .i64 (g + 1)) := keepc_ hb2 (by go_simp))
        exact bodyPost_ret (v := .agg #[.int .i64 0, .int .i64 0]) (by simp [results, Try.results25, go_sem, d0, d1]) rfl ⟨rfl, (Z.below.setCell (by simp) _).setCell (by simp) _⟩
  · simp only [if_true]
    go_enter Try.func25, Try.ntmps25
    go_wp2
    go_loopw [5, 6] (fun v i wr => ∃ k : Nat, k ≤ n ∧ i = .int .i64 k ∧ v = .int .i64 (gmax site (l.take k)) ∧ RnIn w wr) (fun _ i _ => n - (intOf i).toNat)
    case atStart => exact ⟨0, Nat.zero_le _, rfl, rfl, ⟨Below.refl _ _⟩⟩
    case round =>
      obtain ⟨k, hk, rfl, rfl, hI⟩ := hrel
      by_cases hlt : k < n
      · obtain ⟨_, b, off, rfl, hb, hc⟩ := H.out.names_at (by omega)
        have Hs := Lib.hid (gmax_snoc site l k (by have := HN.out; omega))
        obtain ⟨c1, c2⟩ := hc k (by have := HN.out; omega)
        have hbd := gmax_bd site (l.take k)
        generalize hp : l[k]'(by have := HN.out; omega) = p at c1 c2 Hs
        generalize gmax site (l.take k) = q at *
        clear hp hc
        have d1 : wr.cell? ⟨b, off + k * 2, none⟩ = some (.int .i64 p.1) := (hI.below.cell hb).trans c1
        have d2 : wr.cell? ⟨b, off + k * 2 + 1, none⟩ = some (.int .i64 p.2) := (hI.below.cell hb).trans c2
        have hbw := World.block_lt_of_cell? _ _ d1
        clear c1 c2
        have hm := rmay_any p.1 p.2
        cases hmay : mayI p.1 p.2
        · rw [hmay] at hm
          have Hm := Lib.hid hm
          have Hn := Lib.hid hmay
          clear hm hmay
          go_wp2_with (first | (go_at_call 12; refine (Hm.out _).mono ?_; rintro e w' ⟨rfl, hb1⟩; obtain ⟨hc, hf⟩ := bcell hb1))
          go_roundw
          case rel =>
            refine ⟨k + 1, by omega, by go_num, ?_, hI.up hb1⟩
            rw [Hs.out, gstep, if_neg (fun e => by rw [Hn.out] at e; cases e.2)]
          case measure => simp [intOf]; omega
        · rw [hmay] at hm
          have Hm := Lib.hid hm
          have Hn := Lib.hid hmay
          clear hm hmay
          by_cases hs : p.1 = site
          · have Hs1 := Lib.hid hs
            have hs' : (p.1 == site) = true := by simpa using hs
            clear hs
            go_wp2_with (first | (go_at_call 12; refine (Hm.out _).mono ?_; rintro e w' ⟨rfl, hb1⟩; obtain ⟨hc, hf⟩ := bcell hb1))
            go_roundw
            case rel =>
              refine ⟨k + 1, by omega, by go_num, ?_, hI.up hb1⟩
              rw [Hs.out, show gstep site q p = max q p.2 from if_pos ⟨Hs1.out, Hn.out⟩, imax]
            case measure => simp [intOf]; omega
          · have hs' : (p.1 == site) = false := by simpa using hs
            go_wp2_with (first | (go_at_call 12; refine (Hm.out _).mono ?_; rintro e w' ⟨rfl, hb1⟩; obtain ⟨hc, hf⟩ := bcell hb1))
            go_roundw
            case rel =>
              refine ⟨k + 1, by omega, by go_num, ?_, hI.up hb1⟩
              rw [Hs.out, gstep, if_neg (fun e => hs e.1)]
            case measure => simp [intOf]; omega
      · rw [List.take_of_length_le (by have := HN.out; omega), HG.out] at *
        have y0 := hI.c0
        have y1 := hI.c1
        have y2 := hI.f0
        have y3 := hI.f1
        have y4 := hI.lt
        go_wp2_with (go_at_call 12; refine (HM.out _).mono ?_; rintro e w2 ⟨rfl, hb2⟩; have Z := (hI.up (below1 _ _)).up hb2; have d0 := Z.c0; have d1 := Z.c1; have d2 := Z.f0; have d3 := Z.f1; have p0 : w2.cell? ⟨wr.heap.size, 0, none⟩ = some (.int .i64 site) := keepc_ hb2 (by go_simp); have p1 : w2.cell? ⟨wr.heap.size, 1, none⟩ = some (.int .i64 (g + 1)) := keepc_ hb2 (by go_simp))
        exact bodyPost_ret (v := .agg #[.int .i64 site, .int .i64 (g + 1)]) (by simp [results, Try.results25, go_sem, d0, d1]) rfl ⟨rfl, (Z.below.setCell (by simp) _).setCell (by simp) _⟩

theorem rnext_any (A : Option Addr) (n c : Nat) (l : List (Int × Int)) (site : Int) (w : World) (h : RdS w w.heap.size 2 A n c (namesV l)) (hn : n ≤ 1048576) :
    Calls Try.prog 25 #[.slice A n c, .int .i64 site] w fun e w' => e = .returned (.agg #[.int .i64 (nextI site l).1, .int .i64 (nextI site l).2]) ∧ Below w.heap.size w w' := by
  have h1 := rnext_end site (gmax site l) A n c l w h hn _ rfl rfl
  unfold nextI
  cases hm : mayI site (gmax site l + 1)
  · rw [hm] at h1
    simpa using h1
  · rw [hm] at h1
    simpa using h1
end Go.Proofs.Ytedihfggijcciaa
