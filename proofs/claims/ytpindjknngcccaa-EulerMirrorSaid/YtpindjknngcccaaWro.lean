/- A diagram whose vertices and edges are of one's own; its rings turned the other way round, in numbers. -/
import Derived.Test.YtpindjknngcccaaCm11
import Derived.Test.YtpindjknngcccaaRfC
namespace Go.Proofs.Ytpindjknngcccaa
open Go.RowKit
set_option linter.unusedSimpArgs false
set_option linter.unusedVariables false

structure Wro (W : World) (lo : Nat) (A : Option Addr) (n c : Nat) (Us : List VC) (B : Option Addr) (m k : Nat) (Es : List EC) : Prop where
  v : W.ownsRow lo 42 5 (.slice A n c) n (rowsV vC Us)
  e : W.ownsRow lo 37 4 (.slice B m k) m (rowsV eC Es)
  r : ∀ x ∈ Us, RgOk W x.2.1
theorem no_str_d {L : List D} {s : ByteArray} : ¬ Value.string s ∈ dartsV L := fun h => by
  rw [dartsV_rows] at h
  obtain ⟨x, _, hx⟩ := rowsV_mem h
  simp [dC] at hx
section
variable {W W' : World} {lo : Nat} {A : Option Addr} {n c : Nat} {Us : List VC} {B : Option Addr} {m k : Nat} {Es : List EC}
theorem ClS.wro (h : ClS W lo A n c Us B m k Es) : Wro W lo A n c Us B m k Es := ⟨h.v, h.e, fun x hx => ⟨own_cap (h.r x hx), own_rds (h.r x hx)⟩⟩
theorem Wro.dg (h : Wro W lo A n c Us B m k Es) : DgIn W A n c Us B m k Es := ⟨own_rds h.v, own_rds h.e, h.r⟩
theorem Wro.bl (h : Wro W lo A n c Us B m k Es) (hb : Below W.heap.size W W') : Wro W' lo A n c Us B m k Es := ⟨own_up h.v hb, own_up h.e hb, fun x hx => (h.r x hx).bl hb⟩
theorem Wro.al (h : Wro W lo A n c Us B m k Es) (o : Obj) : Wro (W.alloc o) lo A n c Us B m k Es := h.bl (below1 W o)
theorem Wro.dr (h : Wro W lo A n c Us B m k Es) : Wro W.drew lo A n c Us B m k Es := h.bl ((Below.refl _ _).drew)
theorem Wro.put (h : Wro W lo A n c Us B m k Es) {j : Nat} {x : VC} (hx : Us[j]? = some x) (hj : j < n) (R : Rg) (hR : RgOk W R) :
    ∃ g, A = some ⟨g, 0, none⟩ ∧ lo ≤ g ∧ (∃ cs, Whole W g 42 cs) ∧ W.cell? ⟨g, j * 5 + 2, none⟩ = some (.slice x.2.1.1 x.2.1.2.1 x.2.1.2.2.1) ∧ W.frozen? ⟨g, j * 5 + 2, none⟩ = false ∧
      Wro (W.setCell ⟨g, j * 5 + 2, none⟩ (.slice R.1 R.2.1 R.2.2.1)) lo A n c (Us.set j (x.1, R, x.2.2)) B m k Es := by
  obtain ⟨g, junk, e, hlo, hw, hc, hf, ho⟩ := own_poke (i := 2) (y := (x.1, R, x.2.2)) (u := .slice R.1 R.2.1 R.2.2.1) vC_len h.v hx hj (by omega) rfl
  have hc2 : W.cell? ⟨g, j * 5 + 2, none⟩ = some (.slice x.2.1.1 x.2.1.2.1 x.2.1.2.2.1) := hc.trans rfl
  refine ⟨g, e, hlo, ⟨_, hw⟩, hc2, hf, ho, own_cell_far h.e (own_ne h.e hw (by decide)) _, fun y hy => rg_poke ?_ hc2 _⟩
  rcases List.mem_or_eq_of_mem_set hy with hy | rfl
  · exact h.r y hy
  · exact hR
theorem Wro.lab (h : Wro W lo A n c Us B m k Es) {j : Nat} {x : VC} (hx : Us[j]? = some x) (hj : j < n) (s : ByteArray) :
    ∃ g, A = some ⟨g, 0, none⟩ ∧ lo ≤ g ∧ (∃ cs, Whole W g 42 cs) ∧ W.cell? ⟨g, j * 5 + 3, none⟩ = some (.string x.2.2.1) ∧ W.frozen? ⟨g, j * 5 + 3, none⟩ = false ∧
      Wro (W.setCell ⟨g, j * 5 + 3, none⟩ (.string s)) lo A n c (Us.set j (setLab x s)) B m k Es := by
  obtain ⟨g, junk, e, hlo, hw, hc, hf, ho⟩ := own_poke (i := 3) (y := setLab x s) (u := .string s) vC_len h.v hx hj (by omega) rfl
  have hc2 : W.cell? ⟨g, j * 5 + 3, none⟩ = some (.string x.2.2.1) := hc.trans rfl
  refine ⟨g, e, hlo, ⟨_, hw⟩, hc2, hf, ho, own_cell_far h.e (own_ne h.e hw (by decide)) _, fun y hy => ?_⟩
  have key : ∀ z, RgOk W z → RgOk (W.setCell ⟨g, j * 5 + 3, none⟩ (.string s)) z := fun z hz => ⟨hz.1, by rw [size_setCell]; exact rds_poke hz.2 hc2 no_str_d _⟩
  rcases List.mem_or_eq_of_mem_set hy with hy | rfl
  · exact key _ (h.r y hy)
  · exact key _ (h.r x (List.mem_of_getElem? hx))
end
/-- What is written to a block of vertices of one's own leaves other diagrams as they were, of which none is there. -/
theorem DgIn.vfar {W : World} {A B : Option Addr} {n c m k : Nat} {Vs : List VC} {Es : List EC} (h : DgIn W A n c Vs B m k Es) {lo g i : Nat} (hg : lo ≤ g) (hb : ∀ W', (∀ j, j < lo → W'.heap[j]? = W.heap[j]?) → W.heap.size ≤ W'.heap.size → DgIn W' A n c Vs B m k Es) (u : Value) : DgIn (W.setCell ⟨g, i, none⟩ u) A n c Vs B m k Es :=
  hb _ (fun j hj => Below.heap_setCell _ _ _ _ (by show j ≠ g; omega)) (by rw [size_setCell]; exact Nat.le_refl _)
/-- A ring the other way round. -/
def bkL (L : List D) : List D := turnD L.reverse
theorem bkL_mem (L : List D) (x : D) : x ∈ bkL L ↔ x ∈ L := by
  unfold bkL
  rw [(turn_perm _).mem_iff, List.mem_reverse]
theorem bkL_len (L : List D) : (bkL L).length = L.length := by
  unfold bkL
  rw [turnD_len, List.length_reverse]
theorem back_step {L : List D} {p : Nat} {x : D} (h : L[p]? = some x) : (L.drop p).reverse = (L.drop (p + 1)).reverse ++ [x] := by
  obtain ⟨hp, e⟩ := List.getElem?_eq_some_iff.1 h
  rw [List.drop_eq_getElem_cons hp, e, List.reverse_cons]
end Go.Proofs.Ytpindjknngcccaa
