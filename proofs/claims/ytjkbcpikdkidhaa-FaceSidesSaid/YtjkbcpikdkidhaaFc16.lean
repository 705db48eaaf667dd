/- Faces of a diagram that is well formed; and the document's examples. -/
import Derived.Test.YtjkbcpikdkidhaaFcU
import Derived.Test.YtjkbcpikdkidhaaFcV
import Derived.Test.YtjkbcpikdkidhaaFc15
import Derived.Test.YtjkbcpikdkidhaaFc5
namespace Go.Proofs.Ytjkbcpikdkidhaa
open Go.RowKit
set_option linter.unusedSimpArgs false
set_option linter.unusedVariables false


structure PreF (n : Nat) (Vs : List VC) : Prop where
  n : n ≤ 1000000
  r : ∀ x ∈ Vs, x.2.1.2.1 ≤ 1000000
  s : ∀ v ∈ Vs, ∀ d ∈ v.2.1.2.2.2, wfS d
  k : ∀ S, KeysD (sigM Vs) S → S.length ≤ 1000000
  l : (dsV Vs).length ≤ 1000000
theorem Formed.pre {A : Option Addr} {n c : Nat} {Vs : List VC} {B : Option Addr} {m k : Nat} {Es : List EC} {w : World} (hf : Formed Vs Es) (h : DgIn w A n c Vs B m k Es) (hg : GoodD Vs Es) : PreF n Vs := by
  have h8 := hf.l80
  obtain ⟨h1, h2, h3⟩ := hf.small h
  exact ⟨by omega, fun x hx => by have := h3 x hx; omega, fun v hv d hd => hf.wfS hg (ring_mem.2 ⟨v, hv, hd⟩), fun S hS => by have := hS.formed hf hg; omega, by rw [dsV_eq]; omega⟩
theorem darts5_any (A : Option Addr) (n c : Nat) (Vs : List VC) (B : Option Addr) (m k : Nat) (Es : List EC) (w : World) (h : DgIn w A n c Vs B m k Es) (hf : Formed Vs Es) (hg : GoodD Vs Es) :
    Calls Try.prog 21 #[.agg #[.slice A n c, .slice B m k]] w fun e w' => ∃ A' c', e = .returned (.slice A' (dsE Es).length c') ∧ w'.ownsRow (w.heap.size + 1) 29 3 (.slice A' (dsE Es).length c') (dsE Es).length (dartsV (dsE Es)) ∧ Below w.heap.size w w' := by
  have hp := hf.pre h hg
  refine (darts_any A n c Vs B m k Es w h hp.n hp.r).mono ?_
  rintro e w' ⟨A', c', rfl, ho, hb⟩
  have hl : (dsV Vs).length = (dsE Es).length := by
    have := congrArg List.length (sort_darts hf)
    rwa [show (sortD (dsV Vs)).length = (dsV Vs).length by simp [sortD]] at this
  rw [sort_darts hf, hl] at ho
  rw [hl]
  exact ⟨A', c', rfl, ho, hb⟩
theorem trace5_any (A : Option Addr) (n c : Nat) (Vs : List VC) (B : Option Addr) (m k : Nat) (Es : List EC) (x1 x2 x3 : Int) (w : World) (h : DgIn w A n c Vs B m k Es) (hf : Formed Vs Es) (hg : GoodD Vs Es) (hx : wfD (x1, x2, x3)) :
    Calls Try.prog 24 #[.agg #[.slice A n c, .slice B m k], .agg #[.int .i64 x1, .int .i64 x2, .int .i64 x3]] w fun e w' => ∃ A' c', e = .returned (.slice A' (faceD Vs (x1, x2, x3)).length c') ∧ w'.ownsRow w.heap.size 29 3 (.slice A' (faceD Vs (x1, x2, x3)).length c') (faceD Vs (x1, x2, x3)).length (dartsV (faceD Vs (x1, x2, x3))) ∧ Below w.heap.size w w' := by
  have hp := hf.pre h hg
  refine (trace_any A n c Vs B m k Es x1 x2 x3 w h hp.n hp.r hp.s hx hp.k).mono ?_
  rintro e w' ⟨S, A', c', hS, rfl, ho, hb⟩
  rw [faceL_eq hf (by rw [hS.formed hf hg]; exact Nat.le_refl _)] at ho ⊢
  exact ⟨A', c', rfl, ho, hb⟩
theorem share5_any (A : Option Addr) (n c : Nat) (Vs : List VC) (B : Option Addr) (m k : Nat) (Es : List EC) (x1 x2 x3 y1 y2 y3 : Int) (w : World) (h : DgIn w A n c Vs B m k Es) (hf : Formed Vs Es) (hg : GoodD Vs Es) (hx : wfD (x1, x2, x3)) :
    Calls Try.prog 28 #[.agg #[.slice A n c, .slice B m k], .agg #[.int .i64 x1, .int .i64 x2, .int .i64 x3], .agg #[.int .i64 y1, .int .i64 y2, .int .i64 y3]] w fun e w' => e = .returned (.bool (decide ((y1, y2, y3) ∈ faceD Vs (x1, x2, x3)))) ∧ Below w.heap.size w w' := by
  have hp := hf.pre h hg
  refine (share_any A n c Vs B m k Es x1 x2 x3 y1 y2 y3 w h hp.n hp.r hp.s hx hp.k).mono ?_
  rintro e w' ⟨S, hS, rfl, hb⟩
  rw [faceL_eq hf (by rw [hS.formed hf hg]; exact Nat.le_refl _)]
  exact ⟨rfl, hb⟩
theorem faces5_any (A : Option Addr) (n c : Nat) (Vs : List VC) (B : Option Addr) (m k : Nat) (Es : List EC) (w : World) (h : DgIn w A n c Vs B m k Es) (hf : Formed Vs Es) (hg : GoodD Vs Es) :
    Calls Try.prog 26 #[.agg #[.slice A n c, .slice B m k]] w fun e w' => ∃ A' c' X, e = .returned (.slice A' X.length c') ∧ RowsIn w' (w.heap.size + 1) 35 29 3 encD A' X.length c' X ∧ X.map (·.2.2) = orbsF (phF Vs) 80 (dsE Es) [] ∧ Below w.heap.size w w' := by
  have hp := hf.pre h hg
  refine (faces_any A n c Vs B m k Es w h hp.n hp.r hp.s hp.k hp.l).mono ?_
  rintro e w' ⟨S, A', c', X, hS, rfl, hR, hX, hb⟩
  rw [sort_darts hf, facesF_eq hf (by rw [hS.formed hf hg]; exact Nat.le_refl _) _ _ (fun x hx => (hf.ds x).1 hx)] at hX
  exact ⟨A', c', X, rfl, hR, hX, hb⟩
set_option maxRecDepth 100000 in
set_option maxHeartbeats 4000000 in
theorem formed05_any (A : Option Addr) (n c : Nat) (Vs : List VC) (B : Option Addr) (m k : Nat) (Es : List EC) (w : World) (h : DgIn w A n c Vs B m k Es) (hg : GoodD Vs Es) (hz : SmD n m Vs) :
    Calls Try.prog 15 #[.agg #[.slice A n c, .slice B m k]] w fun e w' => e = .returned (.bool (formD Vs Es == 0)) ∧ Below w.heap.size w w' := by
  have HDa := Lib.hid h
  have HF := Lib.hid (fun W (h : DgIn W A n c Vs B m k Es) => formR_eq Vs Es ▸ rform_any A n c Vs B m k Es W h hz.r hg.lv hg.le)
  obtain ⟨fo, gfo⟩ : ∃ z, formD Vs Es = z := ⟨_, rfl⟩
  rw [gfo] at HF ⊢
  clear h hg hz gfo
  go_enter Try.func15, Try.ntmps15
  go_upto_region 1 with fail
  have hx0 : Whole (w.alloc (.cells #[.slice A n c, .slice B m k] 25)) (w.heap.size) 25 [.slice A n c, .slice B m k] := (Whole.new_ w 25 [.slice A n c, .slice B m k])
  have hbl : Below w.heap.size w (w.alloc (.cells #[.slice A n c, .slice B m k] 25)) := (below1 w (.cells #[.slice A n c, .slice B m k] 25))
  have hsz : w.heap.size + 1 ≤ ((w.alloc (.cells #[.slice A n c, .slice B m k] 25))).heap.size := by simp
  obtain ⟨W0, gW0⟩ : ∃ z, (w.alloc (.cells #[.slice A n c, .slice B m k] 25)) = z := ⟨_, rfl⟩
  rw [gW0] at hx0 hbl hsz
  obtain ⟨b0, gb0⟩ : ∃ z, w.heap.size = z := ⟨_, rfl⟩
  rw [gb0] at hx0
  have HX0 := Lib.hid hx0
  have HB0 := Lib.hid hbl
  have HS0 := Lib.hid hsz
  have Gb0 := Lib.hid gb0
  have Lb0 : RowKit.Hid (w.heap.size ≤ b0) := Lib.hid (by omega)
  rw [gW0, gb0]
  clear gW0 hbl hsz hx0 gb0
  have c0 := HX0.out.cell (i := 0) rfl
  have c1 := HX0.out.cell (i := 1) rfl
  go_wp2_with fail
  refine (HF.out _ (HDa.out.bl HB0.out)).mono ?_
  rintro e w3 ⟨rfl, hb3⟩
  have HB3 := Lib.hid (bel_bl HB0.out hb3)
  clear hb3 c0 c1
  go_wp2
  go_ret
  exact ⟨rfl, HB3.out⟩
end Go.Proofs.Ytjkbcpikdkidhaa
