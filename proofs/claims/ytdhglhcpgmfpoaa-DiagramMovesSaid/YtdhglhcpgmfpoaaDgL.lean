/- Words for the laws over diagrams. -/
import Derived.Test.YtdhglhcpgmfpoaaDgMa
import Derived.Test.YtdhglhcpgmfpoaaDg22
import Derived.Test.YtdhglhcpgmfpoaaDg16
namespace Go.Proofs.Ytdhglhcpgmfpoaa
open Go.RowKit
set_option linter.unusedSimpArgs false
set_option linter.unusedVariables false

section
variable {w w' : World} {A B : Option Addr} {n c m k : Nat} {Vs : List VC} {Es : List EC}
theorem DgIn.bl (h : DgIn w A n c Vs B m k Es) (hb : Below w.heap.size w w') : DgIn w' A n c Vs B m k Es := h.below hb
theorem DgIn.al (h : DgIn w A n c Vs B m k Es) (o : Obj) : DgIn (w.alloc o) A n c Vs B m k Es := h.below (below1 w o)
theorem DgIn.dr (h : DgIn w A n c Vs B m k Es) : DgIn w.drew A n c Vs B m k Es := h.below (below_drewN w.heap.size w 1)
theorem DgIn.far (h : DgIn w A n c Vs B m k Es) (g i : Nat) (u : Value) (ha : ∀ a, A = some a → 0 < n → a.block ≠ g) (hb : ∀ a, B = some a → 0 < m → a.block ≠ g) (hr : ∀ x ∈ Vs, ∀ a, x.2.1.1 = some a → 0 < x.2.1.2.1 → a.block ≠ g) :
    DgIn (w.setCell ⟨g, i, none⟩ u) A n c Vs B m k Es := by
  have hs : (w.setCell ⟨g, i, none⟩ u).heap.size = w.heap.size := by simp [World.setCell]
  exact ⟨by rw [hs]; exact h.v.far_ ha u, by rw [hs]; exact h.e.far_ hb u, fun x hx => ⟨(h.r x hx).1, by rw [hs]; exact (h.r x hx).2.far_ (hr x hx) u⟩⟩
end
theorem RgOk.bl {w w' : World} {r : Rg} (h : RgOk w r) (hb : Below w.heap.size w w') : RgOk w' r := h.below hb
theorem RgOk.al {w : World} {r : Rg} (h : RgOk w r) (o : Obj) : RgOk (w.alloc o) r := h.below (below1 w o)
theorem RgOk.dr {w : World} {r : Rg} (h : RgOk w r) : RgOk w.drew r := h.below (below_drewN w.heap.size w 1)
structure GoodD (Vs : List VC) (Es : List EC) : Prop where
  v : ∀ x ∈ Vs, ∀ d ∈ x.2.1.2.2.2, wfD d
  e : ∀ e ∈ Es, wfD (e.1.1, e.1.2, 0) ∧ wfD (e.1.1, e.1.2, 1)
  lv : ∀ x ∈ Vs, x.2.2.1.size ≤ maxLen
  le : ∀ x ∈ Es, x.2.1.size ≤ maxLen
theorem fewV_ring (v : VC) : (fewV v).2.1.1 = v.2.1.1 ∧ (fewV v).2.1.2.1 ≤ 30 ∧ (fewV v).2.1.2.1 ≤ v.2.1.2.1 ∧ (fewV v).1 = v.1 ∧ (fewV v).2.2 = v.2.2 ∧ ∀ d ∈ (fewV v).2.1.2.2.2, d ∈ v.2.1.2.2.2 := by
  unfold fewV
  split
  · exact ⟨rfl, Nat.le_refl _, by show 30 ≤ _; omega, rfl, rfl, fun d hd => List.mem_of_mem_take hd⟩
  · exact ⟨rfl, by omega, Nat.le_refl _, rfl, rfl, fun d hd => hd⟩
theorem GoodD.few {Vs : List VC} {Es : List EC} (h : GoodD Vs Es) : GoodD ((Vs.take 30).map fewV) (Es.take 50) := by
  refine ⟨fun x hx d hd => ?_, fun e he => h.e e (List.mem_of_mem_take he), fun x hx => ?_, fun e he => h.le e (List.mem_of_mem_take he)⟩
  · obtain ⟨y, hy, rfl⟩ := List.mem_map.1 hx
    exact h.v y (List.mem_of_mem_take hy) d ((fewV_ring y).2.2.2.2.2 d hd)
  · obtain ⟨y, hy, rfl⟩ := List.mem_map.1 hx
    have := h.lv y (List.mem_of_mem_take hy)
    rw [(fewV_ring y).2.2.2.2.1]
    exact this
/-- What few tells. -/
structure FewD (w0 W W' : World) (A : Option Addr) (n c : Nat) (Vs : List VC) (B : Option Addr) (m k : Nat) (Es : List EC) : Prop where
  dg : DgIn W' A n c Vs B m k Es
  good : GoodD Vs Es
  n30 : n ≤ 30
  m50 : m ≤ 50
  r30 : ∀ x ∈ Vs, x.2.1.2.1 ≤ 30
  low : ∀ x ∈ Vs, ∀ a, x.2.1.1 = some a → 0 < x.2.1.2.1 → a.block < w0.heap.size
  fresh : FwNew W A n c B m k
  lenv : Vs.length = n
  lene : Es.length = m
theorem few_step {w0 : World} {A B : Option Addr} {n c m k : Nat} {Vs : List VC} {Es : List EC} (h : DgIn w0 A n c Vs B m k Es) (hg : GoodD Vs Es) (hn : n ≤ maxLen) (hm : m ≤ maxLen) (W : World) (hb : Below w0.heap.size w0 W) :
    Calls Try.prog 11 #[.agg #[.slice A n c, .slice B m k]] W fun e W' => ∃ A' n' c' B' m' k', e = .returned (.agg #[.slice A' n' c', .slice B' m' k']) ∧
      FewD w0 W W' A' n' c' ((Vs.take 30).map fewV) B' m' k' (Es.take 50) ∧ Below W.heap.size W W' := by
  refine (few_any A n c Vs B m k Es W (h.below hb) hn hm).mono ?_
  rintro e W' ⟨A', c', B', k', rfl, hd, hbl, hf⟩
  refine ⟨A', _, c', B', _, k', rfl, ⟨hd, hg.few, by rw [List.length_take]; omega, by rw [List.length_take]; omega, fun x hx => ?_, fun x hx a ha h0 => ?_, hf, by rw [List.length_map], rfl⟩, hbl⟩
  · obtain ⟨y, hy, rfl⟩ := List.mem_map.1 hx
    exact (fewV_ring y).2.1
  · obtain ⟨y, hy, rfl⟩ := List.mem_map.1 hx
    rw [(fewV_ring y).1] at ha
    exact (h.r y (List.mem_of_mem_take hy)).2.low a ha (Nat.lt_of_lt_of_le h0 (fewV_ring y).2.2.1)
/-- The diagram that few told is put into a variable of the call's own. -/
theorem FewD.put {w0 W W' : World} {A B : Option Addr} {n c m k g : Nat} {Vs : List VC} {Es : List EC} (h : FewD w0 W W' A n c Vs B m k Es) (hg0 : w0.heap.size ≤ g) (hg : g < W.heap.size) (u v : Value) :
    DgIn ((W'.setCell ⟨g, 0, none⟩ u).setCell ⟨g, 1, none⟩ v) A n c Vs B m k Es := by
  have ha : ∀ a, A = some a → 0 < n → a.block ≠ g := fun a e h0 => by have := h.fresh.2.2.1 a e h0; omega
  have hb : ∀ a, B = some a → 0 < m → a.block ≠ g := fun a e h0 => by have := h.fresh.2.2.2 a e h0; omega
  have hr : ∀ x ∈ Vs, ∀ a, x.2.1.1 = some a → 0 < x.2.1.2.1 → a.block ≠ g := fun x hx a e h0 => by have := h.low x hx a e h0; omega
  exact (h.dg.far g 0 u ha hb hr).far g 1 v ha hb hr
/-- Another one, of before, behind a store to a variable. -/
theorem DgIn.put {W : World} {A B : Option Addr} {n c m k g : Nat} {Vs : List VC} {Es : List EC} (h : DgIn W A n c Vs B m k Es) (ha : ∀ a, A = some a → 0 < n → a.block ≠ g) (hb : ∀ a, B = some a → 0 < m → a.block ≠ g) (hr : ∀ x ∈ Vs, ∀ a, x.2.1.1 = some a → 0 < x.2.1.2.1 → a.block ≠ g) (u v : Value) :
    DgIn ((W.setCell ⟨g, 0, none⟩ u).setCell ⟨g, 1, none⟩ v) A n c Vs B m k Es := (h.far g 0 u ha hb hr).far g 1 v ha hb hr
end Go.Proofs.Ytdhglhcpgmfpoaa
