/- A diagram whose vertices and edges are of one's own; its rings turned the other way round, in numbers. -/
import Derived.Test.YtjkbcpikdkidhaaCm11
import Derived.Test.YtjkbcpikdkidhaaRfC
namespace Go.Proofs.Ytjkbcpikdkidhaa
open Go.RowKit
set_option linter.unusedSimpArgs false
set_option linter.unusedVariables false

structure Wro (W : World) (lo : Nat) (A : Option Addr) (n c : Nat) (Us : List VC) (B : Option Addr) (m k : Nat) (Es : List EC) : Prop where
  v : W.ownsRow lo 53 5 (.slice A n c) n (rowsV vC Us)
  e : W.ownsRow lo 48 4 (.slice B m k) m (rowsV eC Es)
  r : ∀ x ∈ Us, RgOk W x.2.1
theorem no_str_d {L : List D} {s : ByteArray} : ¬ Value.string s ∈ dartsV L := fun h => by
  rw [dartsV_rows] at h
  obtain ⟨x, _, hx⟩ := rowsV_mem h
  simp [dC] at hx
section
variable {W W' : World} {lo : Nat} {A : Option Addr} {n c : Nat} {Us : List VC} {B : Option Addr} {m k : Nat} {Es : List EC}
theorem ClS.wro (h : ClS W lo A n c Us B m k Es) : Wro W lo A n c Us B m k Es := ⟨h.v, h.e, fun x hx => ⟨own_cap (h.r x hx), own_rds (h.r x hx)⟩⟩
theorem Wro.dg (h : Wro W lo A n c Us B m k Es) : DgIn W A n c Us B m k Es := ⟨own_rds h.v, own_rds h.e, h.r⟩
theorem Wro.bl (h : Wro W lo A n c Us B m k Es) (hb : Below W.heap.size W W') : Wro W' lo A n c Us B m k Es := ⟨own_up h.v hb, own_up h.e hb, fun x hx => (h.r x hx).bl hb⟩
theorem Wro.al (h : Wro W lo A n c Us B m k Es) (o : Obj) : Wro (W.alloc o) lo A n c Us B m k Es := h.bl (below1 W o)
theorem Wro.dr (h : Wro W lo A n c Us B m k Es) : Wro W.drew lo A n c Us B m k Es := h.bl ((Below.refl _ _).drew)
theorem Wro.put (h : Wro W lo A n c Us B m k Es) {j : Nat} {x : VC} (hx : Us[j]? = some x) (hj : j < n) (R : Rg) (hR : RgOk W R) :
    ∃ g, A = some ⟨g, 0, none⟩ ∧ lo ≤ g ∧ (∃ cs, Whole W g 53 cs) ∧ W.cell? ⟨g, j * 5 + 2, none⟩ = some (.slice x.2.1.1 x.2.1.2.1 x.2.1.2.2.1) ∧ W.frozen? ⟨g, j * 5 + 2, none⟩ = false ∧
      Wro (W.setCell ⟨g, j * 5 + 2, none⟩ (.slice R.1 R.2.1 R.2.2.1)) lo A n c (Us.set j (x.1, R, x.2.2)) B m k Es := by
  obtain ⟨g, junk, e, hlo, hw, hc, hf, ho⟩ := own_poke (i := 2) (y := (x.1, R, x.2.2)) (u := .slice R.1 R.2.1 R.2.2.1) vC_len h.v hx hj (by omega) rfl
  have hc2 : W.cell? ⟨g, j * 5 + 2, none⟩ = some (.slice x.2.1.1 x.2.1.2.1 x.2.1.2.2.1) := hc.trans rfl
  refine ⟨g, e, hlo, ⟨_, hw⟩, hc2, hf, ho, own_cell_far h.e (own_ne h.e hw (by decide)) _, fun y hy => rg_poke ?_ hc2 _⟩
  rcases List.mem_or_eq_of_mem_set hy with hy | rfl
  · exact h.r y hy
  · exact hR
theorem Wro.lab (h : Wro W lo A n c Us B m k Es) {j : Nat} {x : VC} (hx : Us[j]? = some x) (hj : j < n) (s : ByteArray) :
    ∃ g, A = some ⟨g, 0, none⟩ ∧ lo ≤ g ∧ (∃ cs, Whole W g 53 cs) ∧ W.cell? ⟨g, j * 5 + 3, none⟩ = some (.string x.2.2.1) ∧ W.frozen? ⟨g, j * 5 + 3, none⟩ = false ∧
      Wro (W.setCell ⟨g, j * 5 + 3, none⟩ (.string s)) lo A n c (Us.set j (setLab x s)) B m k Es := by
  obtain ⟨g, junk, e, hlo, hw, hc, hf, ho⟩ := own_poke (i := 3) (y := setLab x s) (u := .string s) vC_len h.v hx hj (by omega) rfl
  have hc2 : W.cell? ⟨g, j * 5 + 3, none⟩ = some (.string x.2.2.1) := hc.trans rfl
  refine ⟨g, e, hlo, ⟨_, hw⟩, hc2, hf, ho, own_cell_far h.e (own_ne h.e hw (by decide)) _, fun y hy => ?_⟩
  have key : ∀ z, RgOk W z → RgOk (W.setCell ⟨g, j * 5 + 3, none⟩ (.string s)) z := fun z hz => ⟨hz.1, by rw [size_setCell]; exact rds_poke hz.2 hc2 no_str_d _⟩
  rcases List.mem_or_eq_of_mem_set hy with hy | rfl
  · exact key _ (h.r y hy)
  · exact key _ (h.r x (List.mem_of_getElem? hx))
end
/-- What is written to a block of vertices of one's own leaves other diagrams as they were, of which none is there. -/
theorem DgIn.vfar {W : World} {A B : Option Addr} {n c m k : Nat} {Vs : List VC} {Es : List EC} (h : DgIn W A n c Vs B m k Es) {lo g i : Nat} (hg : lo ≤ g) (hb : ∀ W', (∀ j, j < lo → W'.heap[j]? = W.heap[j]?) → W.heap.size ≤ W'.heap.size → DgIn W' A n c Vs B m k Es) (u : Value) : DgIn (W.setCell ⟨g, i, none⟩ u) A n c Vs B m k Es :=
  hb _ (fun j hj => Below.heap_setCell _ _ _ _ (by show j ≠ g; omega)) (by rw [size_setCell]; exact Nat.le_refl _)
/-- A ring the other way round. -/
def bkL (L : List D) : List D := turnD L.reverse
theorem bkL_mem (L : List D) (x : D) : x ∈ bkL L ↔ x ∈ L := by
  unfold bkL
  rw [(turn_perm _).mem_iff, List.mem_reverse]
theorem bkL_len (L : List D) : (bkL L).length = L.length := by
  unfold bkL
  rw [turnD_len, List.length_reverse]
theorem back_step {L : List D} {p : Nat} {x : D} (h : L[p]? = some x) : (L.drop p).reverse = (L.drop (p + 1)).reverse ++ [x] := by
  obtain ⟨hp, e⟩ := List.getElem?_eq_some_iff.1 h
  rw [List.drop_eq_getElem_cons hp, e, List.reverse_cons]
theorem placeF_map : ∀ (Us Vs : List VC) (j : Nat) (x : I2), Us.map (·.1) = Vs.map (·.1) → placeF j Us x = placeF j Vs x
  | [], [], _, _, _ => rfl
  | [], _ :: _, _, _, h => by cases h
  | _ :: _, [], _, _, h => by cases h
  | u :: r, v :: t, j, x, h => by
    simp only [List.map_cons, List.cons.injEq] at h
    rw [placeF, placeF, h.1, placeF_map r t (j + 1) x h.2]
theorem togF_same {Us Vs : List VC} (hn : Us.map (·.1) = Vs.map (·.1)) (hl : labF Us = labF Vs) (x y : I2) : togF Us x y = togF Vs x y := by
  unfold togF
  rw [placeF_map Us Vs 0 x hn, placeF_map Us Vs 0 y hn, hl]
theorem togF_comm (Vs : List VC) (x y : I2) : togF Vs x y = togF Vs y x := by
  unfold togF
  by_cases h : placeF 0 Vs x < 0 ∨ placeF 0 Vs y < 0
  · rw [if_pos h, if_pos (Or.symm h)]
  · rw [if_neg h, if_neg (fun q => h (Or.symm q))]
    exact Bool.eq_iff_iff.2 ⟨fun h => by simp at h ⊢; exact h.symm, fun h => by simp at h ⊢; exact h.symm⟩
/-- Vertices as they are told (vS), with their rings the other way round. -/
theorem ats_back {Us Vs : List VC} (g : VC → (Int × Int) × List D × ByteArray × Int) (hg : ∀ v, (g v).2.1 = bkL v.2.1.2.2.2) (h : Us.map vS = Vs.map g) (i : Nat) (y : I2) : Ats Us i y ↔ Ats Vs i y := by
  have e : ∀ k : Nat, (Us[k]?).map vS = (Vs[k]?).map g := fun k => by
    rw [← List.getElem?_map, h, List.getElem?_map]
  unfold Ats
  constructor
  · rintro ⟨u, hu, x, hx, rfl⟩
    have h1 := e i
    rw [hu] at h1
    cases hv : Vs[i]? with
    | none => rw [hv] at h1; cases h1
    | some v =>
      rw [hv] at h1
      have h2 : u.2.1.2.2.2 = bkL v.2.1.2.2.2 := (congrArg (fun s : (Int × Int) × List D × ByteArray × Int => s.2.1) (Option.some.inj h1)).trans (hg v)
      rw [h2, bkL_mem] at hx
      exact ⟨v, rfl, x, hx, rfl⟩
  · rintro ⟨v, hv, x, hx, rfl⟩
    have h1 := e i
    rw [hv] at h1
    cases hu : Us[i]? with
    | none => rw [hu] at h1; cases h1
    | some u =>
      rw [hu] at h1
      have h2 : u.2.1.2.2.2 = bkL v.2.1.2.2.2 := (congrArg (fun s : (Int × Int) × List D × ByteArray × Int => s.2.1) (Option.some.inj h1)).trans (hg v)
      exact ⟨u, rfl, x, by rw [h2, bkL_mem]; exact hx, rfl⟩
end Go.Proofs.Ytjkbcpikdkidhaa
