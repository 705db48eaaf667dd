/- An edge more between two vertices, in numbers: it joins their two parts, and no others. -/
import Derived.Test.YtjkbcpikdkidhaaCm13n
import Derived.Test.YtjkbcpikdkidhaaWro
namespace Go.Proofs.Ytjkbcpikdkidhaa
open Go.RowKit
set_option linter.unusedSimpArgs false
set_option linter.unusedVariables false

def nE : I2 := (8, 1048576)
def insX (b : Bool) (s : Int) (R : List D) : List D := if b then turnD (insR R (0, 0, 0) (8, 1048576, s)) else R
def gN (x y : I2) (v : VC) : (Int × Int) × List D × ByteArray × Int := (v.1, insX (decide (v.1 = y)) 1 (insX (decide (v.1 = x)) 0 v.2.1.2.2.2), v.2.2.1, v.2.2.2)
theorem insR_mem {L : List D} {a d e : D} : e ∈ insR L a d ↔ e = d ∨ e ∈ L := by
  by_cases h : d ∈ L
  · rw [insR, if_pos h]
    constructor
    · exact .inr
    · rintro (rfl | h1)
      · exact h
      · exact h1
  · rw [(insR_perm h).mem_iff, List.mem_cons]
theorem insX_mem {b : Bool} {s : Int} {R : List D} {d : D} : d ∈ insX b s R ↔ d ∈ R ∨ (b = true ∧ d = (8, 1048576, s)) := by
  unfold insX
  cases b with
  | false => simp
  | true =>
    simp only [if_true, (turn_perm _).mem_iff, insR_mem, true_and]
    exact Or.comm
theorem insX_len (b : Bool) (s : Int) (R : List D) : (insX b s R).length ≤ R.length + 1 := by
  unfold insX
  split
  · rw [turnD_len]; exact insR_len _ _ _
  · omega
section
variable {Us Vs : List VC} {Es : List EC} {x y : I2}
theorem gN_get (h : Us.map vS = Vs.map (gN x y)) (i : Nat) : (Us[i]?).map vS = (Vs[i]?).map (gN x y) := by
  rw [← List.getElem?_map, h, List.getElem?_map]
theorem ats_edge (h : Us.map vS = Vs.map (gN x y)) (i : Nat) (e : I2) : Ats Us i e ↔ Ats Vs i e ∨ (e = nE ∧ ∃ v, Vs[i]? = some v ∧ (v.1 = x ∨ v.1 = y)) := by
  have h1 := gN_get h i
  unfold Ats
  constructor
  · rintro ⟨u, hu, d, hd, rfl⟩
    rw [hu] at h1
    cases hv : Vs[i]? with
    | none => rw [hv] at h1; cases h1
    | some v =>
      rw [hv] at h1
      have h2 : u.2.1.2.2.2 = (gN x y v).2.1 := congrArg (fun s : (Int × Int) × List D × ByteArray × Int => s.2.1) (Option.some.inj h1)
      rw [h2, gN, insX_mem, insX_mem] at hd
      rcases hd with (hd | ⟨hb, rfl⟩) | ⟨hb, rfl⟩
      · exact .inl ⟨v, rfl, d, hd, rfl⟩
      · exact .inr ⟨rfl, v, rfl, .inl (of_decide_eq_true hb)⟩
      · exact .inr ⟨rfl, v, rfl, .inr (of_decide_eq_true hb)⟩
  · intro hh
    have key : ∀ v, Vs[i]? = some v → ∃ u, Us[i]? = some u ∧ u.2.1.2.2.2 = (gN x y v).2.1 := fun v hv => by
      rw [hv] at h1
      cases hu : Us[i]? with
      | none => rw [hu] at h1; cases h1
      | some u =>
        rw [hu] at h1
        exact ⟨u, rfl, congrArg (fun s : (Int × Int) × List D × ByteArray × Int => s.2.1) (Option.some.inj h1)⟩
    rcases hh with ⟨v, hv, d, hd, rfl⟩ | ⟨rfl, v, hv, hxy⟩
    · obtain ⟨u, hu, e⟩ := key v hv
      exact ⟨u, hu, d, by rw [e, gN, insX_mem, insX_mem]; exact .inl (.inl hd), rfl⟩
    · obtain ⟨u, hu, e⟩ := key v hv
      rcases hxy with hx | hy
      · exact ⟨u, hu, (8, 1048576, 0), by rw [e, gN, insX_mem, insX_mem]; exact .inl (.inr ⟨decide_eq_true hx, rfl⟩), rfl⟩
      · exact ⟨u, hu, (8, 1048576, 1), by rw [e, gN, insX_mem, insX_mem]; exact .inr ⟨decide_eq_true hy, rfl⟩, rfl⟩
theorem name_one (hf : Formed Vs Es) {i k : Nat} {u v : VC} (hu : Vs[i]? = some u) (hv : Vs[k]? = some v) (e : u.1 = v.1) : i = k := by
  have h1 := place_at Vs 0 i u (rise_nodup hf.rv) hu
  have h2 := place_at Vs 0 k v (rise_nodup hf.rv) hv
  rw [e, h2] at h1
  omega
theorem lab_edge (hf : Formed Vs Es) (hno : ∀ e ∈ Es, e.1 ≠ nE) {px py : Nat} {u v : VC} (hx : Vs[px]? = some u) (hy : Vs[py]? = some v) (h : Us.map vS = Vs.map (gN u.1 v.1)) :
    labF Us = joinF (labF Vs) ((labF Vs).getD px 0) ((labF Vs).getD py 0) := by
  have hl : Us.length = Vs.length := by have := congrArg List.length h; simpa using this
  have hpx := (List.getElem?_eq_some_iff.1 hx).1
  have hpy := (List.getElem?_eq_some_iff.1 hy).1
  have h1 := labF_lab Us
  rw [hl] at h1
  refine h1.uniq (((labF_lab Vs).join hpx hpy).of_iff fun f => ?_)
  have hnot : ∀ i, ¬ Ats Vs i nE := fun i ⟨a, ha, d, hd, e⟩ => by
    obtain ⟨q, hq, e1, _⟩ := hf.of_dart (List.mem_of_getElem? ha) hd
    exact hno q hq (e1.trans e.symm)
  constructor
  · rintro hc i k hi hk ⟨e, h2, h3⟩
    have hpq : f px = f py := hc px py hpx hpy (.inr ⟨rfl, rfl⟩)
    rcases (ats_edge h i e).1 h2 with h2 | ⟨e2, a, ha, h2⟩ <;> rcases (ats_edge h k e).1 h3 with h3 | ⟨e3, b, hb, h3⟩
    · exact hc i k hi hk (.inl ⟨e, h2, h3⟩)
    · subst e3; exact absurd h2 (hnot i)
    · subst e2; exact absurd h3 (hnot k)
    · have ei : i = px ∨ i = py := by
        rcases h2 with h2 | h2
        · exact .inl (name_one hf ha hx h2)
        · exact .inr (name_one hf ha hy h2)
      have ek : k = px ∨ k = py := by
        rcases h3 with h3 | h3
        · exact .inl (name_one hf hb hx h3)
        · exact .inr (name_one hf hb hy h3)
      rcases ei with rfl | rfl <;> rcases ek with rfl | rfl <;> first | rfl | exact hpq | exact hpq.symm
  · rintro hc i k hi hk (⟨e, h2, h3⟩ | ⟨rfl, rfl⟩)
    · exact hc i k hi hk ⟨e, (ats_edge h i e).2 (.inl h2), (ats_edge h k e).2 (.inl h3)⟩
    · exact hc _ _ hi hk ⟨nE, (ats_edge h _ nE).2 (.inr ⟨rfl, u, hx, .inl rfl⟩), (ats_edge h _ nE).2 (.inr ⟨rfl, v, hy, .inr rfl⟩)⟩
theorem edge_num (hf : Formed Vs Es) (hno : ∀ e ∈ Es, e.1 ≠ nE) {px py : Nat} {u v : VC} (hx : Vs[px]? = some u) (hy : Vs[py]? = some v) (h : Us.map vS = Vs.map (gN u.1 v.1)) :
    togF Us u.1 v.1 = true ∧ (cntF (labF Us) : Int) = (cntF (labF Vs) : Int) - (if togF Vs u.1 v.1 = true then 0 else 1) := by
  have hlab := lab_edge hf hno hx hy h
  have hpx := (List.getElem?_eq_some_iff.1 hx).1
  have hpy := (List.getElem?_eq_some_iff.1 hy).1
  have hnm : Us.map (·.1) = Vs.map (·.1) := by
    have h1 := congrArg (List.map (fun s : (Int × Int) × List D × ByteArray × Int => s.1)) h
    rw [List.map_map, List.map_map] at h1
    exact h1
  have e1 := place_at Vs 0 px u (rise_nodup hf.rv) hx
  have e2 := place_at Vs 0 py v (rise_nodup hf.rv) hy
  rw [Nat.zero_add] at e1 e2
  have hlen : (labF Vs).length = Vs.length := labF_len Vs
  constructor
  · unfold togF
    rw [placeF_map Us Vs 0 u.1 hnm, placeF_map Us Vs 0 v.1 hnm, e1, e2, if_neg (by omega), Int.toNat_natCast, Int.toNat_natCast, hlab, joinF_get _ _ _ (by omega), joinF_get _ _ _ (by omega), jf_yes (.inl rfl), jf_yes (.inr rfl)]
    simp
  · have hc := cnt_join (labF_ok Vs) (p := px) (q := py) (by omega) (by omega)
    rw [← hlab] at hc
    rw [tog_at (rise_nodup hf.rv) hx hy]
    by_cases e : (labF Vs).getD px 0 = (labF Vs).getD py 0
    · rw [if_pos e] at hc
      rw [if_pos (by rw [e]; simp)]
      omega
    · rw [if_neg e] at hc
      rw [if_neg (by rw [beq_iff_eq]; exact e)]
      omega
theorem edge_mem (h : Us.map vS = Vs.map (gN x y)) {u : VC} (hu : u ∈ Us) : ∃ v ∈ Vs, (∀ d ∈ u.2.1.2.2.2, d ∈ v.2.1.2.2.2 ∨ d = (8, 1048576, 0) ∨ d = (8, 1048576, 1)) ∧ u.2.1.2.2.2.length ≤ v.2.1.2.2.2.length + 2 := by
  obtain ⟨i, hi⟩ := List.getElem?_of_mem hu
  have h1 := gN_get h i
  rw [hi] at h1
  cases hv : Vs[i]? with
  | none => rw [hv] at h1; cases h1
  | some v =>
    rw [hv] at h1
    have h2 : u.2.1.2.2.2 = (gN x y v).2.1 := congrArg (fun s : (Int × Int) × List D × ByteArray × Int => s.2.1) (Option.some.inj h1)
    refine ⟨v, List.mem_of_getElem? hv, fun d hd => ?_, ?_⟩
    · rw [h2, gN, insX_mem, insX_mem] at hd
      rcases hd with (hd | ⟨_, hd⟩) | ⟨_, hd⟩
      · exact .inl hd
      · exact .inr (.inl hd)
      · exact .inr (.inr hd)
    · rw [h2, gN]
      have h3 := insX_len (decide (v.1 = y)) 1 (insX (decide (v.1 = x)) 0 v.2.1.2.2.2)
      have h4 := insX_len (decide (v.1 = x)) 0 v.2.1.2.2.2
      simp only
      omega
end
/-- An edge more in a copy. -/
def eN : EC := ((8, 1048576), { data := #[] }, 0)
theorem ClS.pushE {P : Program} {W : World} {lo : Nat} {A : Option Addr} {n c : Nat} {Ws : List VC} {B : Option Addr} {m k : Nat} {Es : List EC} (h : ClS W lo A n c Ws B m k Es) (x : EC) (t ty : TypeId) (i : TypeInfo) (z : Value) (ht : P.underlying t = some (.slice 48)) (hi : P.info? 48 = some i) (hz : i.zero = some z) (hsize : i.size = 4) (hby : i.bytes = 40) (hzs : z.cells.size = 4)
    (hn : m ≤ 1000000) (hlo : lo ≤ W.heap.size) (g : Nat) (hr : RdS W W.heap.size 4 (some ⟨g, 0, none⟩) 1 1 (eC x)) :
    ∃ B' k' W', (Builtin.append_ #[t, t] ty #[.slice B m k, .slice (some ⟨g, 0, none⟩) 1 1]).run P W = .ok (.slice B' (m + 1) k') W' ∧ ClS W' lo A n c Ws B' (m + 1) k' (Es ++ [x]) ∧ Below lo W W' ∧ W.grownBy W' (Value.slice B m k).ownBlock := by
  obtain ⟨v', W2, hrun, hown, hg, hn0, hb⟩ := run_append_own_at (P := P) W lo t ty 48 i z 4 40 ht hi hz hsize hby hzs (by decide) _ m _ h.e ⟨g, 0, none⟩ 1 1 _ hr.len (hr.cell _ rfl) (eC_one x) (by unfold maxLen; omega) (by omega) hlo
  have hk : ∀ k', (Value.slice B m k).ownBlock = some k' → lo ≤ k' := fun k' hk => (h.e.lt k' hk).1
  obtain ⟨B', k', rfl, _⟩ := RdS.of_own hown
  have e : rowsV eC Es ++ eC x = rowsV eC (Es ++ [x]) := by rw [rowsV_app]; simp [rowsV]
  rw [e] at hown
  have keep : ∀ {T : TypeId} {s : Nat} {v : Value} {j : Nat} {xs : List Value}, W.ownsRow lo T s v j xs → 48 ≠ T → W2.ownsRow lo T s v j xs := fun {T s v j xs} ho hT => ho.kept hg (by
    cases hv : v.ownBlock with
    | none => exact .inl rfl
    | some g => exact .inr fun q => own_two h.e ho hT q.symm hv)
  exact ⟨B', k', W2, hrun, ⟨keep h.v (by decide), hown, fun y hy => keep (h.r y hy) (by decide)⟩, (Below.refl lo W).grown hg hlo hk, hg⟩
end Go.Proofs.Ytjkbcpikdkidhaa
