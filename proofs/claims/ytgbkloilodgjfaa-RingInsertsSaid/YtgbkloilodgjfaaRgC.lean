/- Rings turned, searched along: the contracts of ring.Turn, along, Next, Prev; and of ring.Same. -/
import Derived.Test.YtgbkloilodgjfaaRgB
namespace Go.Proofs.Ytgbkloilodgjfaa
open Go.RowKit
set_option linter.unusedSimpArgs false

theorem turnD_length (L : List D) : (turnD L).length = L.length := by
  have := leastI_le L L.length
  simp [turnD]
  omega

theorem parts1 {w : World} {g n c : Nat} {t : TypeId} {A : Option Addr} {L : List D} (hg : Whole w g t [.slice A n c]) (hr : RdS w w.heap.size 3 A n c (dartsV L)) : Parts w (some ⟨g, 0, none⟩) 1 [L] := by
  have := hr.dlen
  subst this
  refine ⟨rfl, fun k hk => ?_⟩
  obtain rfl : k = 0 := by omega
  exact ⟨g, 0, A, c, rfl, hg.lt, hg.cell rfl, hr⟩
theorem parts2 {w : World} {g n c n' c' : Nat} {t : TypeId} {A A' : Option Addr} {L L' : List D} (hg : Whole w g t [.slice A n c, .slice A' n' c']) (hr : RdS w w.heap.size 3 A n c (dartsV L)) (hr' : RdS w w.heap.size 3 A' n' c' (dartsV L')) : Parts w (some ⟨g, 0, none⟩) 2 [L, L'] := by
  have := hr.dlen
  have := hr'.dlen
  subst n n'
  refine ⟨rfl, fun k hk => ?_⟩
  rcases (show k = 0 ∨ k = 1 by omega) with rfl | rfl
  · exact ⟨g, 0, A, c, rfl, hg.lt, hg.cell rfl, hr⟩
  · exact ⟨g, 0, A', c', rfl, hg.lt, hg.cell rfl, hr'⟩
theorem parts3 {w : World} {g n c n' c' n2 c2 : Nat} {t : TypeId} {A A' A2 : Option Addr} {L L' L2 : List D} (hg : Whole w g t [.slice A n c, .slice A' n' c', .slice A2 n2 c2]) (hr : RdS w w.heap.size 3 A n c (dartsV L)) (hr' : RdS w w.heap.size 3 A' n' c' (dartsV L')) (hr2 : RdS w w.heap.size 3 A2 n2 c2 (dartsV L2)) : Parts w (some ⟨g, 0, none⟩) 3 [L, L', L2] := by
  have := hr.dlen
  have := hr'.dlen
  have := hr2.dlen
  subst n n' n2
  refine ⟨rfl, fun k hk => ?_⟩
  rcases (show k = 0 ∨ k = 1 ∨ k = 2 by omega) with rfl | rfl | rfl
  · exact ⟨g, 0, A, c, rfl, hg.lt, hg.cell rfl, hr⟩
  · exact ⟨g, 0, A', c', rfl, hg.lt, hg.cell rfl, hr'⟩
  · exact ⟨g, 0, A2, c2, rfl, hg.lt, hg.cell rfl, hr2⟩

theorem turn_of (A : Option Addr) (n c : Nat) (L : List D) (w : World) (g : Nat) (t : TypeId) (hg : Whole w g t [.slice A n c]) (hr : RdS w w.heap.size 3 A n c (dartsV L)) (hn : n ≤ 1000000) :
    Calls Try.prog 50 #[.slice (some ⟨g, 0, none⟩) 1 1] w (GivesR w (turnD L)) := by
  have h := turned_any (some ⟨g, 0, none⟩) 1 1 [L] w (parts1 hg hr) (by omega) (by have := hr.dlen; simp; omega)
  simpa using h

theorem turn_any (A : Option Addr) (n c : Nat) (L : List D) (w : World) (h : RdS w w.heap.size 3 A n c (dartsV L)) (hn : n ≤ 1000000) :
    Calls Try.prog 31 #[.slice A n c] w (GivesR w (turnD L)) := by
  have HT := Lib.hid (fun W g t hg hr => turn_of A n c L W g t hg hr hn)
  have H := Lib.hid h
  clear h
  go_enter Try.func31, Try.ntmps31
  go_wp2_with (go_at_call 50; refine (HT.out _ _ _ (by exact Whole.new_ w _ _) (by exact H.out.up (below1 _ _) (by simp))).mono ?_; rintro e w2 ⟨A2, c2, rfl, hr2, hb2⟩)
  go_ret
  exact ⟨A2, c2, rfl, hr2, below_after1 hb2⟩

theorem same_any (A A' : Option Addr) (n m c c' : Nat) (L M : List D) (w : World) (h : RdS w w.heap.size 3 A n c (dartsV L)) (h' : RdS w w.heap.size 3 A' m c' (dartsV M)) (hn : n ≤ 1000000) (hm : m ≤ 1000000) :
    Calls Try.prog 41 #[.slice A n c, .slice A' m c'] w fun e w' => e = .returned (.bool (decide (turnD L = turnD M))) ∧ Below w.heap.size w w' := by
  have HT := Lib.hid (fun W g t hg hr => turn_of A n c L W g t hg hr hn)
  have HT' := Lib.hid (fun W g t hg hr => turn_of A' m c' M W g t hg hr hm)
  have HE := Lib.hid (fun A1 A2 c1 c2 W h1 h2 => sequal_any A1 A2 (turnD L).length (turnD M).length c1 c2 (turnD L) (turnD M) W h1 h2 (by rw [turnD_length, h.dlen]; omega))
  have H := Lib.hid h
  have H' := Lib.hid h'
  clear h h'
  have tok : True := trivial
  go_enter Try.func41, Try.ntmps41
  go_wp2_with (first
    | (go_at_call 50; have _t := tok; refine (HT.out _ _ _ (by exact Whole.new_ w _ _) (by exact H.out.up (below1 _ _) (by simp))).mono ?_; rintro e w2 ⟨A2, c2, rfl, hr2, hb2⟩; have HB2 := Lib.hid (below_after1 hb2); have R2 := Lib.hid hr2; clear hb2 hr2 tok)
    | (go_at_call 50; refine (HT'.out _ _ _ (by exact Whole.new_ w2 _ _) (by exact (H'.out.up HB2.out HB2.out.size).up (below1 _ _) (by simp))).mono ?_; rintro e w3 ⟨A3, c3, rfl, hr3, hb3⟩; have HB3 := Lib.hid (below_after1 hb3); have R3 := Lib.hid hr3; clear hb3 hr3)
    | (go_at_call 53; refine (HE.out _ _ _ _ _ (by exact R2.out.up HB3.out HB3.out.size) (by exact R3.out)).mono ?_; rintro e w4 ⟨rfl, hb4⟩))
  go_ret
  exact ⟨rfl, (HB2.out.trans (HB3.out.mono HB2.out.size)).trans (hb4.mono (Nat.le_trans HB2.out.size HB3.out.size))⟩

/-- The dart so many places behind d, and whether d is there. -/
def stepD (L : List D) (d : D) (p : Nat) : D := if d ∈ L then L.getD ((L.idxOf d + p) % L.length) (0, 0, 0) else (0, 0, 0)

def GivesD (w : World) (x : D) (ok : Bool) (e : Ending) (w' : World) : Prop :=
  e = .returned (.tuple #[.agg #[.int .i64 x.1, .int .i64 x.2.1, .int .i64 x.2.2], .bool ok]) ∧ Below w.heap.size w w'

theorem idxD_mem {L : List D} {d : D} (h : d ∈ L) : idxD L d = (L.idxOf d : Int) ∧ L.idxOf d < L.length := ⟨by rw [idxD, if_pos h], List.idxOf_lt_length_of_mem h⟩
theorem idxD_no {L : List D} {d : D} (h : ¬ d ∈ L) : idxD L d = -1 := by rw [idxD, if_neg h]

theorem along_any (A : Option Addr) (n c : Nat) (p : Int) (L : List D) (d : D) (w : World) (h : RdS w w.heap.size 3 A n c (dartsV L)) (hn : n ≤ 1000000) (hp : d ∈ L → 0 ≤ p ∧ p ≤ 1000000) :
    Calls Try.prog 49 #[.slice A n c, .agg #[.int .i64 d.1, .int .i64 d.2.1, .int .i64 d.2.2], .int .i64 p] w (GivesD w (stepD L d p.toNat) (decide (d ∈ L))) := by
  have HI := Lib.hid (fun W h => rindex_any A n c L d W h (by omega))
  have H := Lib.hid h
  have hl := h.dlen
  by_cases hd : d ∈ L
  · obtain ⟨hp1, hp2⟩ := hp hd
    obtain ⟨p, rfl⟩ := Int.eq_ofNat_of_zero_le hp1
    rw [Int.toNat_natCast]
    obtain ⟨e1, e2⟩ := idxD_mem hd
    rw [e1] at HI
    obtain ⟨k, gk⟩ : ∃ v, L.idxOf d = v := ⟨_, rfl⟩
    have hs : stepD L d p = L.getD ((k + p) % n) (0, 0, 0) := by rw [stepD, if_pos hd, gk, hl]
    rw [gk] at HI e2
    have hkn : k < n := by omega
    obtain ⟨b, off, rfl, hb, hc⟩ := h.darts (by omega)
    have hj : (k + p) % n < n := Nat.mod_lt _ (by omega)
    have hmod : ((k : Int) + (p : Int)) % (n : Int) = (((k + p) % n : Nat) : Int) := by rw [Int.natCast_emod, Int.natCast_add]
    obtain ⟨j, gj⟩ : ∃ v, (k + p) % n = v := ⟨_, rfl⟩
    rw [gj] at hs hj hmod
    obtain ⟨c1, c2, c3⟩ := hc j (by omega)
    obtain ⟨x, gx⟩ : ∃ v, L.getD j (0, 0, 0) = v := ⟨_, rfl⟩
    rw [gx] at hs c1 c2 c3
    rw [hs, decide_eq_true hd]
    have C1 := Lib.hid c1
    have C2 := Lib.hid c2
    have C3 := Lib.hid c3
    clear hs gx gj hc hd gk e1 e2 h hl c1 c2 c3 hp hp1
    go_enter Try.func49, Try.ntmps49
    go_wp2_with (first
      | (go_at_call 33; refine (HI.out _ (by exact H.out.up (below2 _ _ _) (by simp <;> omega))).mono ?_; rintro e w2 ⟨rfl, hb2⟩
         have HB := Lib.hid (below_after2 hb2)
         have d1 := (HB.out.cell (p := ⟨b, off + j * 3, none⟩) hb).trans C1.out
         have d2 := (HB.out.cell (p := ⟨b, off + j * 3 + 1, none⟩) hb).trans C2.out
         have d3 := (HB.out.cell (p := ⟨b, off + j * 3 + 2, none⟩) hb).trans C3.out
         have hz := (Whole.new_ (w.alloc (.cells #[.int .i64 d.1, .int .i64 d.2.1, .int .i64 d.2.2] 46)) 46 [.int .i64 0, .int .i64 0, .int .i64 0]).below hb2
         simp only [World.size_alloc] at hz
         have z0 := hz.cell (i := 0) rfl
         have z1 := hz.cell (i := 1) rfl
         have z2 := hz.cell (i := 2) rfl
         have y0 := hz.free 0
         have y1 := hz.free 1
         have y2 := hz.free 2
         clear hb2 hz))
    exact bodyPost_ret (v := .tuple #[.agg #[.int .i64 x.1, .int .i64 x.2.1, .int .i64 x.2.2], .bool true]) (by simp [results, Try.results49, go_sem, z0, z1, z2]) rfl ⟨rfl, ((HB.out.setCell (by simp) _).setCell (by simp) _).setCell (by simp) _⟩
  · have hs : stepD L d p.toNat = (0, 0, 0) := by rw [stepD, if_neg hd]
    rw [idxD_no hd] at HI
    rw [hs, decide_eq_false hd]
    clear hs h hd hl hp
    go_enter Try.func49, Try.ntmps49
    go_wp2_with (first
      | (go_at_call 33; refine (HI.out _ (by exact H.out.up (below2 _ _ _) (by simp <;> omega))).mono ?_; rintro e w2 ⟨rfl, hb2⟩
         have HB := Lib.hid (below_after2 hb2)
         have hz := (Whole.new_ (w.alloc (.cells #[.int .i64 d.1, .int .i64 d.2.1, .int .i64 d.2.2] 46)) 46 [.int .i64 0, .int .i64 0, .int .i64 0]).below hb2
         simp only [World.size_alloc] at hz
         have z0 := hz.cell (i := 0) rfl
         have z1 := hz.cell (i := 1) rfl
         have z2 := hz.cell (i := 2) rfl
         have y0 := hz.free 0
         have y1 := hz.free 1
         have y2 := hz.free 2
         clear hb2 hz))
    exact bodyPost_ret (v := .tuple #[.agg #[.int .i64 0, .int .i64 0, .int .i64 0], .bool false]) (by simp [results, Try.results49, go_sem, z0, z1, z2]) rfl ⟨rfl, ((HB.out.setCell (by simp) _).setCell (by simp) _).setCell (by simp) _⟩

def nextD (L : List D) (d : D) : D := stepD L d 1
def prevD (L : List D) (d : D) : D := stepD L d (L.length - 1)

theorem RdS.whole3 {w : World} {g : Nat} {t : TypeId} {L : List D} (hw : Whole w g t (dartsV L)) : RdS w w.heap.size 3 (some ⟨g, 0, none⟩) L.length L.length (dartsV L) :=
  ⟨dartsV_length L, fun e => (by cases e), Nat.le_refl _, fun a e _ => (by obtain rfl := Option.some.inj e; exact hw.lt), fun a e j u hj => (by
    obtain rfl := Option.some.inj e
    rw [Addr.add_lit]
    simpa using hw.cell hj)⟩

theorem rnext_any (A : Option Addr) (n c : Nat) (L : List D) (d : D) (w : World) (h : RdS w w.heap.size 3 A n c (dartsV L)) (hn : n ≤ 1000000) :
    Calls Try.prog 26 #[.slice A n c, .agg #[.int .i64 d.1, .int .i64 d.2.1, .int .i64 d.2.2]] w (GivesD w (nextD L d) (decide (d ∈ L))) := by
  have hs : nextD L d = stepD L d (1 : Int).toNat := by
    unfold nextD
    rfl
  have HA := Lib.hid (fun W h' => along_any A n c 1 L d W h' hn (by intro; omega))
  rw [hs]
  have H := Lib.hid h
  clear h hs
  obtain ⟨x, gx⟩ : ∃ v, stepD L d (1 : Int).toNat = v := ⟨_, rfl⟩
  obtain ⟨ok, gok⟩ : ∃ v, decide (d ∈ L) = v := ⟨_, rfl⟩
  rw [gx, gok] at HA
  rw [gx, gok]
  clear gx gok
  go_enter Try.func26, Try.ntmps26
  go_wp2_with (first
    | (go_at_call 49; refine (HA.out _ (by exact H.out.up (below2 _ _ _) (by simp <;> omega))).mono ?_; rintro e w2 ⟨rfl, hb2⟩
       have HB := Lib.hid (below_after2 hb2)
       have hz := (Whole.new_ (w.alloc (.cells #[.int .i64 d.1, .int .i64 d.2.1, .int .i64 d.2.2] 46)) 46 [.int .i64 0, .int .i64 0, .int .i64 0]).below hb2
       simp only [World.size_alloc] at hz
       have z0 := hz.cell (i := 0) rfl
       have z1 := hz.cell (i := 1) rfl
       have z2 := hz.cell (i := 2) rfl
       have y0 := hz.free 0
       have y1 := hz.free 1
       have y2 := hz.free 2
       clear hb2 hz))
  exact bodyPost_ret (v := .tuple #[.agg #[.int .i64 x.1, .int .i64 x.2.1, .int .i64 x.2.2], .bool ok]) (by simp [results, Try.results26, go_sem, z0, z1, z2]) rfl ⟨rfl, ((HB.out.setCell (by simp) _).setCell (by simp) _).setCell (by simp) _⟩

theorem rprev_any (A : Option Addr) (n c : Nat) (L : List D) (d : D) (w : World) (h : RdS w w.heap.size 3 A n c (dartsV L)) (hn : n ≤ 1000000) :
    Calls Try.prog 28 #[.slice A n c, .agg #[.int .i64 d.1, .int .i64 d.2.1, .int .i64 d.2.2]] w (GivesD w (prevD L d) (decide (d ∈ L))) := by
  have hs : prevD L d = stepD L d (((n : Int) - 1) : Int).toNat := by
    unfold prevD
    rw [show ((n : Int) - 1).toNat = L.length - 1 by have := h.dlen; omega]
  have HA := Lib.hid (fun W h' => along_any A n c ((n : Int) - 1) L d W h' hn (by intro hd; have := List.length_pos_of_mem hd; have := h.dlen; omega))
  rw [hs]
  have H := Lib.hid h
  clear h hs
  obtain ⟨x, gx⟩ : ∃ v, stepD L d (((n : Int) - 1) : Int).toNat = v := ⟨_, rfl⟩
  obtain ⟨ok, gok⟩ : ∃ v, decide (d ∈ L) = v := ⟨_, rfl⟩
  rw [gx, gok] at HA
  rw [gx, gok]
  clear gx gok
  go_enter Try.func28, Try.ntmps28
  go_wp2_with (first
    | (go_at_call 49; refine (HA.out _ (by exact H.out.up (below2 _ _ _) (by simp <;> omega))).mono ?_; rintro e w2 ⟨rfl, hb2⟩
       have HB := Lib.hid (below_after2 hb2)
       have hz := (Whole.new_ (w.alloc (.cells #[.int .i64 d.1, .int .i64 d.2.1, .int .i64 d.2.2] 46)) 46 [.int .i64 0, .int .i64 0, .int .i64 0]).below hb2
       simp only [World.size_alloc] at hz
       have z0 := hz.cell (i := 0) rfl
       have z1 := hz.cell (i := 1) rfl
       have z2 := hz.cell (i := 2) rfl
       have y0 := hz.free 0
       have y1 := hz.free 1
       have y2 := hz.free 2
       clear hb2 hz))
  exact bodyPost_ret (v := .tuple #[.agg #[.int .i64 x.1, .int .i64 x.2.1, .int .i64 x.2.2], .bool ok]) (by simp [results, Try.results28, go_sem, z0, z1, z2]) rfl ⟨rfl, ((HB.out.setCell (by simp) _).setCell (by simp) _).setCell (by simp) _⟩
end Go.Proofs.Ytgbkloilodgjfaa
