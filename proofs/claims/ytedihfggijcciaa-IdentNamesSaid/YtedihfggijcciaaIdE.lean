/- The names of a list; the greatest count, and the next name. -/
import Derived.Test.YtedihfggijcciaaIdD
namespace Go.Proofs.Ytedihfggijcciaa
open Go.RowKit

def namesV : List (Int × Int) → List Value
  | [] => []
  | p :: l => iv p.1 :: iv p.2 :: namesV l
theorem namesV_length (l : List (Int × Int)) : (namesV l).length = l.length * 2 := by
  induction l with
  | nil => rfl
  | cons p l ih => simp [namesV, ih]; omega
theorem namesV_get (l : List (Int × Int)) (k : Nat) (h : k < l.length) : (namesV l)[k * 2]? = some (iv l[k].1) ∧ (namesV l)[k * 2 + 1]? = some (iv l[k].2) := by
  induction l generalizing k with
  | nil => simp at h
  | cons p l ih =>
    cases k with
    | zero => simp [namesV]
    | succ k =>
      have := ih k (by simpa using h)
      have e1 : (k + 1) * 2 = k * 2 + 1 + 1 := by omega
      rw [e1]
      simpa [namesV] using this

/-- The greatest count of the site's names that may be. -/
def gstep (site : Int) (g : Int) (p : Int × Int) : Int := if p.1 = site ∧ mayI p.1 p.2 = true then max g p.2 else g
def gmax (site : Int) (l : List (Int × Int)) : Int := l.foldl (gstep site) 0
theorem gmax_snoc (site : Int) (l : List (Int × Int)) (k : Nat) (h : k < l.length) : gmax site (l.take (k + 1)) = gstep site (gmax site (l.take k)) l[k] := by
  rw [gmax, gmax, List.take_succ_eq_append_getElem h, List.foldl_append]
  rfl
theorem gstep_bd (site g : Int) (p : Int × Int) (h0 : 0 ≤ g) (h1 : g ≤ 1048576) : 0 ≤ gstep site g p ∧ gstep site g p ≤ 1048576 := by
  unfold gstep
  split
  · rename_i h
    have h2 := of_decide_eq_true h.2
    omega
  · exact ⟨h0, h1⟩
theorem gfold_bd (site : Int) (l : List (Int × Int)) : ∀ g : Int, 0 ≤ g → g ≤ 1048576 → 0 ≤ l.foldl (gstep site) g ∧ l.foldl (gstep site) g ≤ 1048576 := by
  induction l with
  | nil => exact fun g h0 h1 => ⟨h0, h1⟩
  | cons p l ih => exact fun g h0 h1 => ih _ (gstep_bd site g p h0 h1).1 (gstep_bd site g p h0 h1).2
theorem gmax_bd (site : Int) (l : List (Int × Int)) : 0 ≤ gmax site l ∧ gmax site l ≤ 1048576 := gfold_bd site l 0 (by omega) (by omega)

theorem imax (a b : Int) : (if a < b then b else a) = max a b := by split <;> omega

/-- The cells of a slice of names, as the walk spells them. -/
theorem RdS.names_at {w : World} {B n c : Nat} {A : Option Addr} {l : List (Int × Int)} (h : RdS w B 2 A n c (namesV l)) (hn : 0 < n) :
    l.length = n ∧ ∃ b off, A = some ⟨b, off, none⟩ ∧ b < B ∧ ∀ k (hk : k < l.length), w.cell? ⟨b, off + k * 2, none⟩ = some (.int .i64 l[k].1) ∧ w.cell? ⟨b, off + k * 2 + 1, none⟩ = some (.int .i64 l[k].2) := by
  have hl : l.length = n := by
    have := h.len
    rw [namesV_length] at this
    omega
  refine ⟨hl, ?_⟩
  cases A with
  | none => exact absurd (h.none_ rfl).1 (by omega)
  | some a =>
    have h0 := h.cell a rfl 0 _ (namesV_get l 0 (by omega)).1
    have ha : ∃ b off, a = ⟨b, off, none⟩ := by
      obtain ⟨b, off, f⟩ := a
      cases f with
      | none => exact ⟨b, off, rfl⟩
      | some f =>
        simp [Addr.add, World.cell?] at h0
        split at h0 <;> cases h0
    obtain ⟨b, off, rfl⟩ := ha
    refine ⟨b, off, rfl, h.low _ rfl hn, fun k hk => ?_⟩
    have e1 := h.cell _ rfl _ _ (namesV_get l k hk).1
    have e2 := h.cell _ rfl _ _ (namesV_get l k hk).2
    rw [Addr.add_lit] at e1 e2
    exact ⟨e1, e2⟩

set_option maxHeartbeats 400000 in
theorem greatest_any (A : Option Addr) (n c : Nat) (l : List (Int × Int)) (site : Int) (w : World) (h : RdS w w.heap.size 2 A n c (namesV l)) (hn : n ≤ 1048576) :
    Calls Try.prog 30 #[.slice A n c, .int .i64 site] w fun e w' => e = .returned (.int .i64 (gmax site l)) ∧ Below w.heap.size w w' := by
  by_cases h0 : n = 0
  · subst h0
    have hl : l = [] := by
      have := h.len
      rw [namesV_length] at this
      exact List.eq_nil_of_length_eq_zero (by omega)
    subst hl
    clear h
    go_enter Try.func30, Try.ntmps30
    go_wp2
    go_loopw [5, 10] (fun g i wr => g = .int .i64 0 ∧ i = .int .i64 0 ∧ w = wr) (fun _ i _ => 0 - (intOf i).toNat)
    case atStart => exact ⟨rfl, rfl, rfl⟩
    case round =>
      obtain ⟨rfl, rfl, rfl⟩ := hrel
      go_wp2
      go_ret
      exact ⟨rfl, Below.refl _ _⟩
  · obtain ⟨hl, b, off, rfl, hb, hc⟩ := h.names_at (by omega)
    have HC := Lib.hid hc
    have HL := Lib.hid hl
    clear hc hl h h0
    go_enter Try.func30, Try.ntmps30
    go_wp2
    go_loopw [5, 10] (fun g i wr => ∃ k : Nat, k ≤ n ∧ i = .int .i64 k ∧ g = .int .i64 (gmax site (l.take k)) ∧ Below w.heap.size w wr) (fun _ i _ => n - (intOf i).toNat)
    case atStart => exact ⟨0, Nat.zero_le _, rfl, rfl, Below.refl _ _⟩
    case round =>
      obtain ⟨k, hk, rfl, rfl, hbw⟩ := hrel
      by_cases hlt : k < n
      · have Hs := Lib.hid (gmax_snoc site l k (by have := HL.out; omega))
        obtain ⟨c1, c2⟩ := HC.out k (by have := HL.out; omega)
        have hbd := gmax_bd site (l.take k)
        generalize hp : l[k]'(by have := HL.out; omega) = p at c1 c2 Hs
        generalize gmax site (l.take k) = g at *
        clear hp
        have d1 : wr.cell? ⟨b, off + k * 2, none⟩ = some (.int .i64 p.1) := (hbw.cell hb).trans c1
        have d2 : wr.cell? ⟨b, off + k * 2 + 1, none⟩ = some (.int .i64 p.2) := (hbw.cell hb).trans c2
        clear c1 c2
        have hsz := hbw.size
        have hm := Lib.hid (may_any p.1 p.2)
        by_cases hs : p.1 = site
        · have Hs1 := Lib.hid hs
          have hs' : (p.1 == site) = true := by simpa using hs
          clear hs
          go_wp2_with (first | (go_at_call 11; refine (hm.out _).mono ?_; rintro e w' ⟨rfl, hb1⟩; obtain ⟨hc, hf⟩ := bcell hb1))
          · go_roundw
            case rel =>
              refine ⟨k + 1, by omega, by go_num, ?_, hbw.trans (below_after1 hb1 |>.mono hsz)⟩
              rw [Hs.out, show gstep site g p = max g p.2 from if_pos ⟨Hs1.out, by assumption⟩, imax]
            case measure => simp [intOf]; omega
          · rename_i hmay
            go_roundw
            case rel =>
              refine ⟨k + 1, by omega, by go_num, ?_, hbw.trans (below_after1 hb1 |>.mono hsz)⟩
              rw [Hs.out, gstep, if_neg (fun e => by rw [e.2] at hmay; cases hmay)]
            case measure => simp [intOf]; omega
        · have hs' : (p.1 == site) = false := by simpa using hs
          go_wp2
          go_roundw
          case rel =>
            refine ⟨k + 1, by omega, by go_num, ?_, hbw.trans ((below1 wr _).mono hsz)⟩
            rw [Hs.out, gstep, if_neg (fun e => hs e.1)]
          case measure => simp [intOf]; omega
      · go_wp2
        go_ret
        exact ⟨ret_int (by rw [List.take_of_length_le (by have := HL.out; omega)]), hbw⟩

/-- The next name of a site: behind the greatest, or none. -/
def nextI (site : Int) (l : List (Int × Int)) : Int × Int := if mayI site (gmax site l + 1) = true then (site, gmax site l + 1) else (0, 0)

theorem next_any (A : Option Addr) (n c : Nat) (l : List (Int × Int)) (site : Int) (w : World) (h : RdS w w.heap.size 2 A n c (namesV l)) (hn : n ≤ 1048576) :
    Calls Try.prog 24 #[.slice A n c, .int .i64 site] w fun e w' => e = .returned (.agg #[.int .i64 (nextI site l).1, .int .i64 (nextI site l).2]) ∧ Below w.heap.size w w' := by
  have H := Lib.hid h
  have HG := Lib.hid (fun W h => greatest_any A n c l site W h hn)
  have hbd := gmax_bd site l
  unfold nextI
  clear h
  generalize gmax site l = g at *
  have HM := Lib.hid (may_any site (g + 1))
  cases hm : mayI site (g + 1)
  · rw [hm] at HM
    clear hm
    simp only [Bool.false_eq_true, if_false]
    go_enter Try.func24, Try.ntmps24
    go_wp2_with (first
      | (go_at_call 30; refine (HG.out _ (by exact H.out.up (below1 _ _) (by simp))).mono ?_; rintro e w' ⟨rfl, hb⟩; obtain ⟨hc, hf⟩ := bcell hb; have hsz := hb.size; simp at hsz; have hz1 : w.heap.size < w'.heap.size := (by omega); have hz2 : w.heap.size ≤ w'.heap.size := (by omega))
      | (go_at_call 11; refine (HM.out _).mono ?_; rintro e w2 ⟨rfl, hb2⟩; obtain ⟨hc2, hf2⟩ := bcell hb2; have hsz2 := hb2.size; simp at hsz2))
    have c0 : w2.cell? ⟨w.heap.size, 0, none⟩ = some (.int .i64 0) := by simp [hc2, hc, hz1, go_sem]
    have c1 : w2.cell? ⟨w.heap.size, 1, none⟩ = some (.int .i64 0) := by simp [hc2, hc, hz1, go_sem]
    have hB : Below w.heap.size w w2 := (below_after1 hb).trans (below_after1 hb2 |>.mono hz2)
    exact bodyPost_ret (v := .agg #[.int .i64 0, .int .i64 0]) (by simp [results, Try.results24, go_sem, c0, c1]) rfl ⟨rfl, (hB.setCell (by simp) _).setCell (by simp) _⟩
  · rw [hm] at HM
    clear hm
    simp only [if_true]
    go_enter Try.func24, Try.ntmps24
    go_wp2_with (first
      | (go_at_call 30; refine (HG.out _ (by exact H.out.up (below1 _ _) (by simp))).mono ?_; rintro e w' ⟨rfl, hb⟩; obtain ⟨hc, hf⟩ := bcell hb; have hsz := hb.size; simp at hsz; have hz1 : w.heap.size < w'.heap.size := (by omega); have hz2 : w.heap.size ≤ w'.heap.size := (by omega))
      | (go_at_call 11; refine (HM.out _).mono ?_; rintro e w2 ⟨rfl, hb2⟩; obtain ⟨hc2, hf2⟩ := bcell hb2; have hsz2 := hb2.size; simp at hsz2))
    have c0 : w2.cell? ⟨w.heap.size, 0, none⟩ = some (.int .i64 0) := by simp [hc2, hc, hz1, go_sem]
    have c1 : w2.cell? ⟨w.heap.size, 1, none⟩ = some (.int .i64 0) := by simp [hc2, hc, hz1, go_sem]
    have hB : Below w.heap.size w w2 := (below_after1 hb).trans (below_after1 hb2 |>.mono hz2)
    exact bodyPost_ret (v := .agg #[.int .i64 site, .int .i64 (g + 1)]) (by simp [results, Try.results24, go_sem, c0, c1]) rfl ⟨rfl, (hB.setCell (by simp) _).setCell (by simp) _⟩
end Go.Proofs.Ytedihfggijcciaa
