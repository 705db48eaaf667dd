/- Next of rings, the program's and the document's. -/
import Derived.Test.YtpindjknngcccaaRfC
namespace Go.Proofs.Ytpindjknngcccaa
open Go.RowKit
set_option linter.unusedSimpArgs false
set_option linter.unusedVariables false

def stpD (L : List D) (d : D) (p : Nat) : D := if d ∈ L then L.getD ((L.idxOf d + p) % L.length) (0, 0, 0) else (0, 0, 0)

def GivesD (w : World) (x : D) (ok : Bool) (e : Ending) (w' : World) : Prop :=
  e = .returned (.tuple #[.agg #[.int .i64 x.1, .int .i64 x.2.1, .int .i64 x.2.2], .bool ok]) ∧ Below w.heap.size w w'

def nextD (L : List D) (d : D) : D := stpD L d 1

theorem rfnext_any (A : Option Addr) (n c : Nat) (L : List D) (d : D) (w : World) (h : RdS w w.heap.size 3 A n c (dartsV L)) (hn : n ≤ 1000000) :
    Calls Try.prog 87 #[.slice A n c, .agg #[.int .i64 d.1, .int .i64 d.2.1, .int .i64 d.2.2]] w (GivesD w (nextD L d) (decide (d ∈ L))) := by
  have HI := Lib.hid (fun W h => rfindex_any A n c L d W h (by omega))
  have H := Lib.hid h
  have hl := h.dlen
  by_cases hd : d ∈ L
  · obtain ⟨e1, e2⟩ := idxD_mem hd
    rw [e1] at HI
    obtain ⟨k, gk⟩ : ∃ v, L.idxOf d = v := ⟨_, rfl⟩
    have hkn : k < n := by omega
    have hs : nextD L d = L.getD ((k + 1) % n) (0, 0, 0) := by rw [nextD, stpD, if_pos hd, gk, hl]
    rw [gk] at HI e2
    obtain ⟨b, off, rfl, hb, hc⟩ := h.darts (by omega)
    have hj : (k + 1) % n < n := Nat.mod_lt _ (by omega)
    have hmod : ((k : Int) + 1) % (n : Int) = (((k + 1) % n : Nat) : Int) := by rw [Int.natCast_emod, Int.natCast_add]; rfl
    obtain ⟨j, gj⟩ : ∃ v, (k + 1) % n = v := ⟨_, rfl⟩
    rw [gj] at hs hj hmod
    obtain ⟨c1, c2, c3⟩ := hc j (by omega)
    obtain ⟨x, gx⟩ : ∃ v, L.getD j (0, 0, 0) = v := ⟨_, rfl⟩
    rw [gx] at hs c1 c2 c3
    rw [hs, decide_eq_true hd]
    have C1 := Lib.hid c1
    have C2 := Lib.hid c2
    have C3 := Lib.hid c3
    clear hs gx gj hc hd gk e1 e2 h hl c1 c2 c3
    go_enter Try.func87, Try.ntmps87
    go_wp2_with (first
      | (go_at_call 27; refine (HI.out _ (by exact H.out.up (below2 _ _ _) (by simp <;> omega))).mono ?_; rintro e w2 ⟨rfl, hb2⟩
         have HB := Lib.hid (below_after2 hb2)
         have d1 := (HB.out.cell (p := ⟨b, off + j * 3, none⟩) hb).trans C1.out
         have d2 := (HB.out.cell (p := ⟨b, off + j * 3 + 1, none⟩) hb).trans C2.out
         have d3 := (HB.out.cell (p := ⟨b, off + j * 3 + 2, none⟩) hb).trans C3.out
         have hz := (Whole.new_ (w.alloc (.cells #[.int .i64 d.1, .int .i64 d.2.1, .int .i64 d.2.2] 39)) 39 [.int .i64 0, .int .i64 0, .int .i64 0]).below hb2
         simp only [World.size_alloc] at hz
         have z0 := hz.cell (i := 0) rfl
         have z1 := hz.cell (i := 1) rfl
         have z2 := hz.cell (i := 2) rfl
         have y0 := hz.free 0
         have y1 := hz.free 1
         have y2 := hz.free 2
         clear hb2 hz))
    exact bodyPost_ret (v := .tuple #[.agg #[.int .i64 x.1, .int .i64 x.2.1, .int .i64 x.2.2], .bool true]) (by simp [results, Try.results87, go_sem, z0, z1, z2]) rfl ⟨rfl, ((HB.out.setCell (by simp) _).setCell (by simp) _).setCell (by simp) _⟩
  · have hs : nextD L d = (0, 0, 0) := by rw [nextD, stpD, if_neg hd]
    rw [idxD_no hd] at HI
    rw [hs, decide_eq_false hd]
    clear hs h hd hl
    go_enter Try.func87, Try.ntmps87
    go_wp2_with (first
      | (go_at_call 27; refine (HI.out _ (by exact H.out.up (below2 _ _ _) (by simp <;> omega))).mono ?_; rintro e w2 ⟨rfl, hb2⟩
         have HB := Lib.hid (below_after2 hb2)
         have hz := (Whole.new_ (w.alloc (.cells #[.int .i64 d.1, .int .i64 d.2.1, .int .i64 d.2.2] 39)) 39 [.int .i64 0, .int .i64 0, .int .i64 0]).below hb2
         simp only [World.size_alloc] at hz
         have z0 := hz.cell (i := 0) rfl
         have z1 := hz.cell (i := 1) rfl
         have z2 := hz.cell (i := 2) rfl
         have y0 := hz.free 0
         have y1 := hz.free 1
         have y2 := hz.free 2
         clear hb2 hz))
    exact bodyPost_ret (v := .tuple #[.agg #[.int .i64 0, .int .i64 0, .int .i64 0], .bool false]) (by simp [results, Try.results87, go_sem, z0, z1, z2]) rfl ⟨rfl, ((HB.out.setCell (by simp) _).setCell (by simp) _).setCell (by simp) _⟩

end Go.Proofs.Ytpindjknngcccaa
