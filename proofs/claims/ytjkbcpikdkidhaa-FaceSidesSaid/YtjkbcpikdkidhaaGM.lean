/- Words for all layers, in one text. -/
import Derived.Test.YtjkbcpikdkidhaaCm13n
import Derived.Test.YtjkbcpikdkidhaaWro
import Derived.Test.YtjkbcpikdkidhaaGN
import Derived.Test.YtjkbcpikdkidhaaFcM
import Derived.Test.YtjkbcpikdkidhaaFcU
import Derived.Test.YtjkbcpikdkidhaaFcV

/- An edge more between two vertices, in numbers: it joins their two parts, and no others. -/
namespace Go.Proofs.Ytjkbcpikdkidhaa
open Go.RowKit
set_option linter.unusedSimpArgs false
set_option linter.unusedVariables false

def nE : I2 := (8, 1048576)
def insX (b : Bool) (s : Int) (R : List D) : List D := if b then turnD (insR R (0, 0, 0) (8, 1048576, s)) else R
def gN (x y : I2) (v : VC) : (Int × Int) × List D × ByteArray × Int := (v.1, insX (decide (v.1 = y)) 1 (insX (decide (v.1 = x)) 0 v.2.1.2.2.2), v.2.2.1, v.2.2.2)
theorem insR_mem {L : List D} {a d e : D} : e ∈ insR L a d ↔ e = d ∨ e ∈ L := by
  by_cases h : d ∈ L
  · rw [insR, if_pos h]
    constructor
    · exact .inr
    · rintro (rfl | h1)
      · exact h
      · exact h1
  · rw [(insR_perm h).mem_iff, List.mem_cons]
theorem insX_mem {b : Bool} {s : Int} {R : List D} {d : D} : d ∈ insX b s R ↔ d ∈ R ∨ (b = true ∧ d = (8, 1048576, s)) := by
  unfold insX
  cases b with
  | false => simp
  | true =>
    simp only [if_true, (turn_perm _).mem_iff, insR_mem, true_and]
    exact Or.comm
theorem insX_len (b : Bool) (s : Int) (R : List D) : (insX b s R).length ≤ R.length + 1 := by
  unfold insX
  split
  · rw [turnD_len]; exact insR_len _ _ _
  · omega
section
variable {Us Vs : List VC} {Es : List EC} {x y : I2}
theorem gN_get (h : Us.map vS = Vs.map (gN x y)) (i : Nat) : (Us[i]?).map vS = (Vs[i]?).map (gN x y) := by
  rw [← List.getElem?_map, h, List.getElem?_map]
theorem ats_edge (h : Us.map vS = Vs.map (gN x y)) (i : Nat) (e : I2) : Ats Us i e ↔ Ats Vs i e ∨ (e = nE ∧ ∃ v, Vs[i]? = some v ∧ (v.1 = x ∨ v.1 = y)) := by
  have h1 := gN_get h i
  unfold Ats
  constructor
  · rintro ⟨u, hu, d, hd, rfl⟩
    rw [hu] at h1
    cases hv : Vs[i]? with
    | none => rw [hv] at h1; cases h1
    | some v =>
      rw [hv] at h1
      have h2 : u.2.1.2.2.2 = (gN x y v).2.1 := congrArg (fun s : (Int × Int) × List D × ByteArray × Int => s.2.1) (Option.some.inj h1)
      rw [h2, gN, insX_mem, insX_mem] at hd
      rcases hd with (hd | ⟨hb, rfl⟩) | ⟨hb, rfl⟩
      · exact .inl ⟨v, rfl, d, hd, rfl⟩
      · exact .inr ⟨rfl, v, rfl, .inl (of_decide_eq_true hb)⟩
      · exact .inr ⟨rfl, v, rfl, .inr (of_decide_eq_true hb)⟩
  · intro hh
    have key : ∀ v, Vs[i]? = some v → ∃ u, Us[i]? = some u ∧ u.2.1.2.2.2 = (gN x y v).2.1 := fun v hv => by
      rw [hv] at h1
      cases hu : Us[i]? with
      | none => rw [hu] at h1; cases h1
      | some u =>
        rw [hu] at h1
        exact ⟨u, rfl, congrArg (fun s : (Int × Int) × List D × ByteArray × Int => s.2.1) (Option.some.inj h1)⟩
    rcases hh with ⟨v, hv, d, hd, rfl⟩ | ⟨rfl, v, hv, hxy⟩
    · obtain ⟨u, hu, e⟩ := key v hv
      exact ⟨u, hu, d, by rw [e, gN, insX_mem, insX_mem]; exact .inl (.inl hd), rfl⟩
    · obtain ⟨u, hu, e⟩ := key v hv
      rcases hxy with hx | hy
      · exact ⟨u, hu, (8, 1048576, 0), by rw [e, gN, insX_mem, insX_mem]; exact .inl (.inr ⟨decide_eq_true hx, rfl⟩), rfl⟩
      · exact ⟨u, hu, (8, 1048576, 1), by rw [e, gN, insX_mem, insX_mem]; exact .inr ⟨decide_eq_true hy, rfl⟩, rfl⟩
theorem name_one (hf : Formed Vs Es) {i k : Nat} {u v : VC} (hu : Vs[i]? = some u) (hv : Vs[k]? = some v) (e : u.1 = v.1) : i = k := by
  have h1 := place_at Vs 0 i u (rise_nodup hf.rv) hu
  have h2 := place_at Vs 0 k v (rise_nodup hf.rv) hv
  rw [e, h2] at h1
  omega
theorem lab_edge (hf : Formed Vs Es) (hno : ∀ e ∈ Es, e.1 ≠ nE) {px py : Nat} {u v : VC} (hx : Vs[px]? = some u) (hy : Vs[py]? = some v) (h : Us.map vS = Vs.map (gN u.1 v.1)) :
    labF Us = joinF (labF Vs) ((labF Vs).getD px 0) ((labF Vs).getD py 0) := by
  have hl : Us.length = Vs.length := by have := congrArg List.length h; simpa using this
  have hpx := (List.getElem?_eq_some_iff.1 hx).1
  have hpy := (List.getElem?_eq_some_iff.1 hy).1
  have h1 := labF_lab Us
  rw [hl] at h1
  refine h1.uniq (((labF_lab Vs).join hpx hpy).of_iff fun f => ?_)
  have hnot : ∀ i, ¬ Ats Vs i nE := fun i ⟨a, ha, d, hd, e⟩ => by
    obtain ⟨q, hq, e1, _⟩ := hf.of_dart (List.mem_of_getElem? ha) hd
    exact hno q hq (e1.trans e.symm)
  constructor
  · rintro hc i k hi hk ⟨e, h2, h3⟩
    have hpq : f px = f py := hc px py hpx hpy (.inr ⟨rfl, rfl⟩)
    rcases (ats_edge h i e).1 h2 with h2 | ⟨e2, a, ha, h2⟩ <;> rcases (ats_edge h k e).1 h3 with h3 | ⟨e3, b, hb, h3⟩
    · exact hc i k hi hk (.inl ⟨e, h2, h3⟩)
    · subst e3; exact absurd h2 (hnot i)
    · subst e2; exact absurd h3 (hnot k)
    · have ei : i = px ∨ i = py := by
        rcases h2 with h2 | h2
        · exact .inl (name_one hf ha hx h2)
        · exact .inr (name_one hf ha hy h2)
      have ek : k = px ∨ k = py := by
        rcases h3 with h3 | h3
        · exact .inl (name_one hf hb hx h3)
        · exact .inr (name_one hf hb hy h3)
      rcases ei with rfl | rfl <;> rcases ek with rfl | rfl <;> first | rfl | exact hpq | exact hpq.symm
  · rintro hc i k hi hk (⟨e, h2, h3⟩ | ⟨rfl, rfl⟩)
    · exact hc i k hi hk ⟨e, (ats_edge h i e).2 (.inl h2), (ats_edge h k e).2 (.inl h3)⟩
    · exact hc _ _ hi hk ⟨nE, (ats_edge h _ nE).2 (.inr ⟨rfl, u, hx, .inl rfl⟩), (ats_edge h _ nE).2 (.inr ⟨rfl, v, hy, .inr rfl⟩)⟩
theorem edge_num (hf : Formed Vs Es) (hno : ∀ e ∈ Es, e.1 ≠ nE) {px py : Nat} {u v : VC} (hx : Vs[px]? = some u) (hy : Vs[py]? = some v) (h : Us.map vS = Vs.map (gN u.1 v.1)) :
    togF Us u.1 v.1 = true ∧ (cntF (labF Us) : Int) = (cntF (labF Vs) : Int) - (if togF Vs u.1 v.1 = true then 0 else 1) := by
  have hlab := lab_edge hf hno hx hy h
  have hpx := (List.getElem?_eq_some_iff.1 hx).1
  have hpy := (List.getElem?_eq_some_iff.1 hy).1
  have hnm : Us.map (·.1) = Vs.map (·.1) := by
    have h1 := congrArg (List.map (fun s : (Int × Int) × List D × ByteArray × Int => s.1)) h
    rw [List.map_map, List.map_map] at h1
    exact h1
  have e1 := place_at Vs 0 px u (rise_nodup hf.rv) hx
  have e2 := place_at Vs 0 py v (rise_nodup hf.rv) hy
  rw [Nat.zero_add] at e1 e2
  have hlen : (labF Vs).length = Vs.length := labF_len Vs
  constructor
  · unfold togF
    rw [placeF_map Us Vs 0 u.1 hnm, placeF_map Us Vs 0 v.1 hnm, e1, e2, if_neg (by omega), Int.toNat_natCast, Int.toNat_natCast, hlab, joinF_get _ _ _ (by omega), joinF_get _ _ _ (by omega), jf_yes (.inl rfl), jf_yes (.inr rfl)]
    simp
  · have hc := cnt_join (labF_ok Vs) (p := px) (q := py) (by omega) (by omega)
    rw [← hlab] at hc
    rw [tog_at (rise_nodup hf.rv) hx hy]
    by_cases e : (labF Vs).getD px 0 = (labF Vs).getD py 0
    · rw [if_pos e] at hc
      rw [if_pos (by rw [e]; simp)]
      omega
    · rw [if_neg e] at hc
      rw [if_neg (by rw [beq_iff_eq]; exact e)]
      omega
theorem edge_mem (h : Us.map vS = Vs.map (gN x y)) {u : VC} (hu : u ∈ Us) : ∃ v ∈ Vs, (∀ d ∈ u.2.1.2.2.2, d ∈ v.2.1.2.2.2 ∨ d = (8, 1048576, 0) ∨ d = (8, 1048576, 1)) ∧ u.2.1.2.2.2.length ≤ v.2.1.2.2.2.length + 2 := by
  obtain ⟨i, hi⟩ := List.getElem?_of_mem hu
  have h1 := gN_get h i
  rw [hi] at h1
  cases hv : Vs[i]? with
  | none => rw [hv] at h1; cases h1
  | some v =>
    rw [hv] at h1
    have h2 : u.2.1.2.2.2 = (gN x y v).2.1 := congrArg (fun s : (Int × Int) × List D × ByteArray × Int => s.2.1) (Option.some.inj h1)
    refine ⟨v, List.mem_of_getElem? hv, fun d hd => ?_, ?_⟩
    · rw [h2, gN, insX_mem, insX_mem] at hd
      rcases hd with (hd | ⟨_, hd⟩) | ⟨_, hd⟩
      · exact .inl hd
      · exact .inr (.inl hd)
      · exact .inr (.inr hd)
    · rw [h2, gN]
      have h3 := insX_len (decide (v.1 = y)) 1 (insX (decide (v.1 = x)) 0 v.2.1.2.2.2)
      have h4 := insX_len (decide (v.1 = x)) 0 v.2.1.2.2.2
      simp only
      omega
end
/-- An edge more in a copy. -/
def eN : EC := ((8, 1048576), { data := #[] }, 0)
theorem ClS.pushE {P : Program} {W : World} {lo : Nat} {A : Option Addr} {n c : Nat} {Ws : List VC} {B : Option Addr} {m k : Nat} {Es : List EC} (h : ClS W lo A n c Ws B m k Es) (x : EC) (t ty : TypeId) (i : TypeInfo) (z : Value) (ht : P.underlying t = some (.slice 48)) (hi : P.info? 48 = some i) (hz : i.zero = some z) (hsize : i.size = 4) (hby : i.bytes = 40) (hzs : z.cells.size = 4)
    (hn : m ≤ 1000000) (hlo : lo ≤ W.heap.size) (g : Nat) (hr : RdS W W.heap.size 4 (some ⟨g, 0, none⟩) 1 1 (eC x)) :
    ∃ B' k' W', (Builtin.append_ #[t, t] ty #[.slice B m k, .slice (some ⟨g, 0, none⟩) 1 1]).run P W = .ok (.slice B' (m + 1) k') W' ∧ ClS W' lo A n c Ws B' (m + 1) k' (Es ++ [x]) ∧ Below lo W W' ∧ W.grownBy W' (Value.slice B m k).ownBlock := by
  obtain ⟨v', W2, hrun, hown, hg, hn0, hb⟩ := run_append_own_at (P := P) W lo t ty 48 i z 4 40 ht hi hz hsize hby hzs (by decide) _ m _ h.e ⟨g, 0, none⟩ 1 1 _ hr.len (hr.cell _ rfl) (eC_one x) (by unfold maxLen; omega) (by omega) hlo
  have hk : ∀ k', (Value.slice B m k).ownBlock = some k' → lo ≤ k' := fun k' hk => (h.e.lt k' hk).1
  obtain ⟨B', k', rfl, _⟩ := RdS.of_own hown
  have e : rowsV eC Es ++ eC x = rowsV eC (Es ++ [x]) := by rw [rowsV_app]; simp [rowsV]
  rw [e] at hown
  have keep : ∀ {T : TypeId} {s : Nat} {v : Value} {j : Nat} {xs : List Value}, W.ownsRow lo T s v j xs → 48 ≠ T → W2.ownsRow lo T s v j xs := fun {T s v j xs} ho hT => ho.kept hg (by
    cases hv : v.ownBlock with
    | none => exact .inl rfl
    | some g => exact .inr fun q => own_two h.e ho hT q.symm hv)
  exact ⟨B', k', W2, hrun, ⟨keep h.v (by decide), hown, fun y hy => keep (h.r y hy) (by decide)⟩, (Below.refl lo W).grown hg hlo hk, hg⟩
end Go.Proofs.Ytjkbcpikdkidhaa

/- An edge more, in numbers: rings, next darts, how many faces. -/
namespace Go.Proofs.Ytjkbcpikdkidhaa
open Go.RowKit
set_option linter.unusedSimpArgs false
set_option linter.unusedVariables false

/-- One behind x: what comes next in the longer ring. -/
theorem nxtR_end (B : List D) (x d : D) (hn : (B ++ [x, d]).Nodup) : nxtR (B ++ [x, d]) x = d ∧ nxtR (B ++ [x, d]) d = nxtR (B ++ [x]) x ∧ ∀ z ∈ B, nxtR (B ++ [x, d]) z = nxtR (B ++ [x]) z := by
  have hn1 : (B ++ [x]).Nodup := by
    have : (B ++ [x, d]) = (B ++ [x]) ++ [d] := by simp
    rw [this] at hn
    exact (List.nodup_append.1 hn).1
  have g : ∀ (i : Nat) (h : i < B.length), (B ++ [x, d]).getD i (0, 0, 0) = B[i] := fun i h => by
    rw [List.getD_eq_getElem?_getD, List.getElem?_append_left h, List.getElem?_eq_getElem h]; rfl
  have g' : ∀ (i : Nat) (h : i < B.length), (B ++ [x]).getD i (0, 0, 0) = B[i] := fun i h => by
    rw [List.getD_eq_getElem?_getD, List.getElem?_append_left h, List.getElem?_eq_getElem h]; rfl
  have gx : (B ++ [x, d]).getD B.length (0, 0, 0) = x := by
    rw [List.getD_eq_getElem?_getD, List.getElem?_append_right (Nat.le_refl _), Nat.sub_self]; rfl
  have gx' : (B ++ [x]).getD B.length (0, 0, 0) = x := by
    rw [List.getD_eq_getElem?_getD, List.getElem?_append_right (Nat.le_refl _), Nat.sub_self]; rfl
  have gd : (B ++ [x, d]).getD (B.length + 1) (0, 0, 0) = d := by
    rw [List.getD_eq_getElem?_getD, List.getElem?_append_right (by omega), show B.length + 1 - B.length = 1 by omega]; rfl
  have hl : (B ++ [x, d]).length = B.length + 2 := by simp
  have hl' : (B ++ [x]).length = B.length + 1 := by simp
  have g0 : (B ++ [x, d]).getD 0 (0, 0, 0) = (B ++ [x]).getD 0 (0, 0, 0) := by
    cases B with
    | nil => rfl
    | cons b r => rfl
  refine ⟨?_, ?_, fun z hz => ?_⟩
  · have := nxtR_get hn (k := B.length) (by omega)
    rw [gx, hl, Nat.mod_eq_of_lt (by omega), gd] at this
    exact this
  · have h1 := nxtR_get hn (k := B.length + 1) (by omega)
    rw [gd, hl, show B.length + 1 + 1 = B.length + 2 by omega, Nat.mod_self] at h1
    have h2 := nxtR_get hn1 (k := B.length) (by omega)
    rw [gx', hl', Nat.mod_self] at h2
    rw [h1, h2, g0]
  · obtain ⟨i, hi, rfl⟩ := List.getElem_of_mem hz
    have h1 := nxtR_get hn (k := i) (by omega)
    rw [g i hi, hl, Nat.mod_eq_of_lt (by omega)] at h1
    have h2 := nxtR_get hn1 (k := i) (by omega)
    rw [g' i hi, hl', Nat.mod_eq_of_lt (by omega)] at h2
    rw [h1, h2]
    by_cases q : i + 1 < B.length
    · rw [g _ q, g' _ q]
    · have e : i + 1 = B.length := by omega
      rw [e, gx, gx']
theorem insR_in {L : List D} {x d : D} (hx : x ∈ L) (hd : ¬ d ∈ L) : ∃ X Y, L = X ++ x :: Y ∧ insR L x d = X ++ x :: d :: Y := by
  obtain ⟨e1, e2⟩ := idxD_mem hx
  obtain ⟨i, gi⟩ : ∃ z, L.idxOf x = z := ⟨_, rfl⟩
  have ex : L[L.idxOf x]'e2 = x := List.getElem_idxOf e2
  rw [gi] at e1 e2
  have ei : (max (idxD L x) 0).toNat = i := by rw [e1]; omega
  have ex' : L[i]'e2 = x := by
    have : L[L.idxOf x]? = some x := by rw [List.getElem?_eq_getElem (by omega), ex]
    rw [gi, List.getElem?_eq_getElem e2] at this
    exact Option.some.inj this
  refine ⟨L.take i, L.drop (i + 1), ?_, ?_⟩
  · have := List.take_append_drop i L
    rw [List.drop_eq_getElem_cons e2, ex'] at this
    exact this.symm
  · rw [insR, if_neg hd, ei, List.take_succ_eq_append_getElem e2, ex']
    simp
theorem nxtR_ins {R : List D} {x d : D} (hn : R.Nodup) (hx : x ∈ R) (hd : ¬ d ∈ R) : nxtR (turnD (insR R x d)) x = d ∧ nxtR (turnD (insR R x d)) d = nxtR R x ∧ ∀ z ∈ R, z ≠ x → nxtR (turnD (insR R x d)) z = nxtR R z := by
  have hni : (insR R x d).Nodup := (insR_perm hd).nodup_iff.2 (List.nodup_cons.2 ⟨hd, hn⟩)
  obtain ⟨X, Y, e, ei⟩ := insR_in hx hd
  have r1 : Rot (insR R x d) ((Y ++ X) ++ [x, d]) := ⟨X ++ [x, d], Y, by rw [ei]; simp, by simp⟩
  have r2 : Rot R ((Y ++ X) ++ [x]) := ⟨X ++ [x], Y, by rw [e]; simp, by simp⟩
  have hnB : ((Y ++ X) ++ [x, d]).Nodup := r1.nodup hni
  obtain ⟨h1, h2, h3⟩ := nxtR_end (Y ++ X) x d hnB
  have ht : ∀ z, z ∈ insR R x d → nxtR (turnD (insR R x d)) z = nxtR ((Y ++ X) ++ [x, d]) z := fun z hz => by
    rw [nxtR_rot (rot_turn _) hni hz, nxtR_rot r1 hni hz]
  have hm : ∀ z, z ∈ insR R x d ↔ z = d ∨ z ∈ R := fun z => insR_mem
  refine ⟨?_, ?_, fun z hz hzx => ?_⟩
  · rw [ht x ((hm x).2 (.inr hx)), h1]
  · rw [ht d ((hm d).2 (.inl rfl)), h2, nxtR_rot r2 hn hx]
  · have hzB : z ∈ Y ++ X := by
      have : z ∈ (Y ++ X) ++ [x] := (r2.mem z).1 hz
      rcases List.mem_append.1 this with h | h
      · exact h
      · exact absurd (List.mem_singleton.1 h) hzx
    rw [ht z ((hm z).2 (.inr hz)), h3 z hzB, nxtR_rot r2 hn hz]
/-- A vertex with one dart more, if it is the one named p. -/
def mI (p : I2) (x d : D) (v : VC) : VC := if v.1 = p then (v.1, (v.2.1.1, v.2.1.2.1, v.2.1.2.2.1, turnD (insR v.2.1.2.2.2 x d)), v.2.2) else v
theorem mI_name (p : I2) (x d : D) (v : VC) : (mI p x d v).1 = v.1 := by unfold mI; split <;> rfl
theorem mI_names (p : I2) (x d : D) (Vs : List VC) : (Vs.map (mI p x d)).map (·.1) = Vs.map (·.1) := by
  rw [List.map_map]
  exact List.map_congr_left fun v _ => mI_name p x d v
theorem ins_rings {Vs : List VC} (hm : (Vs.map (·.1)).Nodup) {v : VC} (hv : v ∈ Vs) {x d : D} (hd : d ∉ ringsOf Vs) : (ringsOf (Vs.map (mI v.1 x d))).Perm (d :: ringsOf Vs) := by
  obtain ⟨k, hk, ek⟩ := List.getElem_of_mem hv
  have e : Vs.map (mI v.1 x d) = Vs.set k (mI v.1 x d v) := by
    refine List.ext_getElem (by simp) fun i h1 h2 => ?_
    have hi : i < Vs.length := by simpa using h1
    rw [List.getElem_map, List.getElem_set]
    split
    · rename_i q; subst q; rw [ek]
    · rename_i q
      unfold mI
      rw [if_neg]
      intro e
      have e1 : (Vs.map (·.1))[i]'(by simpa using hi) = (Vs.map (·.1))[k]'(by simpa using hk) := by rw [List.getElem_map, List.getElem_map, ek, e]
      exact q ((List.getElem_inj hm).1 e1).symm
  rw [e]
  have hn : ¬ d ∈ v.2.1.2.2.2 := fun h => hd (ring_mem.2 ⟨v, hv, h⟩)
  refine rings_set (u := v) (by rw [List.getElem?_eq_getElem hk, ek]) ?_
  unfold mI
  rw [if_pos rfl]
  exact (turn_perm _).trans (insR_perm hn)
theorem ins_sig {Vs : List VC} (hm : (Vs.map (·.1)).Nodup) (hn : (ringsOf Vs).Nodup) {v : VC} (hv : v ∈ Vs) {x d : D} (hx : x ∈ v.2.1.2.2.2) (hd : d ∉ ringsOf Vs) :
    sgF (Vs.map (mI v.1 x d)) x = d ∧ sgF (Vs.map (mI v.1 x d)) d = sgF Vs x ∧ ∀ z ∈ ringsOf Vs, z ≠ x → sgF (Vs.map (mI v.1 x d)) z = sgF Vs z := by
  have hn2 : (ringsOf (Vs.map (mI v.1 x d))).Nodup := (ins_rings hm hv hd).nodup_iff.2 (List.nodup_cons.2 ⟨hd, hn⟩)
  have hdv : ¬ d ∈ v.2.1.2.2.2 := fun h => hd (ring_mem.2 ⟨v, hv, h⟩)
  have hvn := ring_nodup hn hv
  obtain ⟨h1, h2, h3⟩ := nxtR_ins hvn hx hdv
  have hw : mI v.1 x d v ∈ Vs.map (mI v.1 x d) := List.mem_map.2 ⟨v, hv, rfl⟩
  have er : (mI v.1 x d v).2.1.2.2.2 = turnD (insR v.2.1.2.2.2 x d) := by unfold mI; rw [if_pos rfl]
  have hmm : ∀ z, z ∈ turnD (insR v.2.1.2.2.2 x d) ↔ z = d ∨ z ∈ v.2.1.2.2.2 := fun z => by rw [(turn_perm _).mem_iff, insR_mem]
  refine ⟨?_, ?_, fun z hz hzx => ?_⟩
  · rw [sgF_at hn2 hw (by rw [er, hmm]; exact .inr hx), er, h1]
  · rw [sgF_at hn2 hw (by rw [er, hmm]; exact .inl rfl), er, h2, sgF_at hn hv hx]
  · obtain ⟨u, hu, hzu⟩ := ring_mem.1 hz
    by_cases q : u.1 = v.1
    · have e : u = v := by
        obtain ⟨i, hi, ei⟩ := List.getElem_of_mem hu
        obtain ⟨k, hk, ek⟩ := List.getElem_of_mem hv
        have e1 : (Vs.map (·.1))[i]'(by simpa using hi) = (Vs.map (·.1))[k]'(by simpa using hk) := by rw [List.getElem_map, List.getElem_map, ei, ek, q]
        have := (List.getElem_inj hm).1 e1
        subst this
        rw [← ei, ← ek]
      subst e
      rw [sgF_at hn2 hw (by rw [er, hmm]; exact .inr hzu), er, h3 z hzu hzx, sgF_at hn hv hzu]
    · have hwu : mI v.1 x d u ∈ Vs.map (mI v.1 x d) := List.mem_map.2 ⟨u, hu, rfl⟩
      have eu : mI v.1 x d u = u := by unfold mI; rw [if_neg q]
      rw [eu] at hwu
      rw [sgF_at hn2 hwu hzu, sgF_at hn hu hzu]
/-- Rings that hold what the other sides of their darts are: no word on edges. -/
structure Rung (Vs : List VC) : Prop where
  nd : (ringsOf Vs).Nodup
  ot : ∀ d ∈ ringsOf Vs, othD d ∈ ringsOf Vs
section
variable {Vs : List VC}
theorem Rung.phi (h : Rung Vs) : Pm (phF Vs) (ringsOf Vs) :=
  ⟨h.nd, fun x hx => (sig_pm h.nd).cl _ (h.ot x hx), fun x hx y hy e => by
    have := (sig_pm h.nd).inj _ (h.ot x hx) _ (h.ot y hy) e
    rw [← oth_oth x, this, oth_oth]⟩
theorem Rung.trG (h : Rung Vs) (x : D) : ∀ (k : Nat) (y : D), y ∈ ringsOf Vs → trG (sigM Vs) x k y = orbT (phF Vs) x k y
  | 0, _, _ => rfl
  | k + 1, y, hy => by
    have hz := h.phi.cl y hy
    rw [Go.Proofs.Ytjkbcpikdkidhaa.trG, orbT, sigM_eq h.nd, if_pos (h.ot y hy)]
    show y :: (if phF Vs y = x then [] else Go.Proofs.Ytjkbcpikdkidhaa.trG (sigM Vs) x k (phF Vs y)) = _
    rw [Rung.trG h x k _ hz]
theorem Rung.face (h : Rung Vs) (N : Nat) {x : D} (hx : x ∈ ringsOf Vs) : faceL (sigM Vs) N x = orbT (phF Vs) x N x := by
  rw [faceL, sigM_eq h.nd, if_pos hx, ← h.trG x N x hx]
  rfl
theorem Rung.faces (h : Rung Vs) (N : Nat) : ∀ (l T : List D), (∀ x ∈ l, x ∈ ringsOf Vs) → facesF (sigM Vs) N l T = orbsF (phF Vs) N l T
  | [], _, _ => rfl
  | x :: r, T, hl => by
    have hx := hl x (List.mem_cons_self ..)
    have hr := fun y hy => hl y (List.mem_cons_of_mem _ hy)
    rw [facesF, orbsF, Rung.faces h N r _ hr, Rung.faces h N r _ hr, h.face N hx]
    by_cases q : x ∈ T
    · rw [if_pos q, if_pos q]
    · rw [if_neg q, if_neg q]
theorem Rung.keys (h : Rung Vs) (hw : ∀ d ∈ ringsOf Vs, wfD d) {S : List D} (k : KeysD (sigM Vs) S) : S.length = (ringsOf Vs).length := by
  have hm : ∀ x, x ∈ S ↔ x ∈ ringsOf Vs := fun x => by
    constructor
    · intro hx
      have h1 := (k.2.2 x (k.2.1 x hx)).1 hx
      rw [sigM_eq h.nd] at h1
      by_cases q : x ∈ ringsOf Vs
      · exact q
      · rw [if_neg q] at h1; cases h1
    · intro hx
      refine (k.2.2 x (hw x hx)).2 ?_
      rw [sigM_eq h.nd, if_pos hx]
      rfl
  exact Nat.le_antisymm (nd_le k.1 fun x hx => (hm x).1 hx) (nd_le h.nd fun x hx => (hm x).2 hx)
theorem Rung.all (h : Rung Vs) {N : Nat} (hN : (ringsOf Vs).length ≤ N) : ∃ P, Reps (phF Vs) (ringsOf Vs) P ∧ (facesF (sigM Vs) N (sortD (dsV Vs)) []).length = P.length := by
  have hl : ∀ x, x ∈ sortD (dsV Vs) ↔ x ∈ ringsOf Vs := fun x => (List.mergeSort_perm _ _).mem_iff
  obtain ⟨P, hP, e⟩ := orbs_reps h.phi hN (sortD (dsV Vs)) hl
  exact ⟨P, hP, by rw [h.faces N _ _ (fun x hx => (hl x).1 hx), e, List.length_map]⟩
end
/-- An edge more: behind x it begins, behind y it ends. -/
theorem more_faces {Vs Us : List VC} {Es : List EC} (h : Formed Vs Es) (hno : ∀ e ∈ Es, e.1 ≠ nE) {x y : D} (hxy : x ≠ y) {v u : VC} (hv : v ∈ Vs) (hx : x ∈ v.2.1.2.2.2) (hu : u ∈ Vs) (hy : y ∈ u.2.1.2.2.2)
    (hU : Us.map vS = ((Vs.map (mI v.1 x (8, 1048576, 0))).map (mI u.1 y (8, 1048576, 1))).map vS) :
    Rung Us ∧ (∀ d, d ∈ ringsOf Us ↔ d ∈ ringsOf Vs ∨ d = (8, 1048576, 0) ∨ d = (8, 1048576, 1)) ∧ (ringsOf Us).length ≤ 82 ∧
      ∃ P P', Reps (phF Vs) (ringsOf Vs) P ∧ Reps (phF Us) (ringsOf Us) P' ∧ (Rl (phF Vs) (othD x) (othD y) → P'.length = P.length + 1) ∧ (¬ Rl (phF Vs) (othD x) (othD y) → P'.length + 1 = P.length) := by
  obtain ⟨n0, g0⟩ : ∃ z : D, (8, 1048576, 0) = z := ⟨_, rfl⟩
  obtain ⟨n1, g1⟩ : ∃ z : D, (8, 1048576, 1) = z := ⟨_, rfl⟩
  have h01 : n0 ≠ n1 := by rw [← g0, ← g1]; decide
  have ho0 : othD n0 = n1 := by rw [← g0, ← g1]; rfl
  have ho1 : othD n1 = n0 := by rw [← ho0, oth_oth]
  have hd : ∀ s, ((8, 1048576, s) : D) ∉ ringsOf Vs := fun s q => by
    obtain ⟨e, he, e1, _⟩ := (h.mem _).1 q
    exact hno e he e1
  have hd0 : n0 ∉ ringsOf Vs := g0 ▸ hd 0
  have hd1 : n1 ∉ ringsOf Vs := g1 ▸ hd 1
  rw [g0, g1] at hU ⊢
  have hm := rise_nodup h.rv
  have hxr : x ∈ ringsOf Vs := ring_mem.2 ⟨v, hv, hx⟩
  have hyr : y ∈ ringsOf Vs := ring_mem.2 ⟨u, hu, hy⟩
  obtain ⟨M, gM⟩ : ∃ z, Vs.map (mI v.1 x n0) = z := ⟨_, rfl⟩
  have pM := ins_rings hm hv (x := x) hd0
  obtain ⟨a1, a2, a3⟩ := ins_sig hm h.once hv hx hd0
  have mM := mI_names v.1 x n0 Vs
  have hu' : mI v.1 x n0 u ∈ M := gM ▸ List.mem_map.2 ⟨u, hu, rfl⟩
  have hy' : y ∈ (mI v.1 x n0 u).2.1.2.2.2 := by
    unfold mI
    split
    · show y ∈ turnD (insR u.2.1.2.2.2 x n0)
      rw [(turn_perm _).mem_iff, insR_mem]
      exact .inr hy
    · exact hy
  have en : (mI v.1 x n0 u).1 = u.1 := mI_name _ _ _ _
  rw [gM] at hU pM a1 a2 a3 mM
  have nM : (ringsOf M).Nodup := pM.nodup_iff.2 (List.nodup_cons.2 ⟨hd0, h.once⟩)
  have hmM : (M.map (·.1)).Nodup := mM ▸ hm
  have hd1M : n1 ∉ ringsOf M := fun q => by
    rcases List.mem_cons.1 (pM.mem_iff.1 q) with e | e
    · exact h01 e.symm
    · exact hd1 e
  have pW := ins_rings hmM hu' (x := y) hd1M
  obtain ⟨b1, b2, b3⟩ := ins_sig hmM nM hu' hy' hd1M
  rw [en] at pW b1 b2 b3
  have rU := rings_same hU
  have sU : ∀ z, sgF Us z = sgF (M.map (mI u.1 y n1)) z := fun z => by rw [sgF, sgF, sigM_same hU]
  rw [← rU] at pW
  have memU : ∀ d, d ∈ ringsOf Us ↔ d ∈ ringsOf Vs ∨ d = n0 ∨ d = n1 := fun d => by
    rw [pW.mem_iff, List.mem_cons, pM.mem_iff, List.mem_cons]
    constructor
    · rintro (q | q | q)
      · exact .inr (.inr q)
      · exact .inr (.inl q)
      · exact .inl q
    · rintro (q | q | q)
      · exact .inr (.inr q)
      · exact .inr (.inl q)
      · exact .inl q
  have nU : (ringsOf Us).Nodup := pW.nodup_iff.2 (List.nodup_cons.2 ⟨hd1M, nM⟩)
  have hR : Rung Us := ⟨nU, fun d hd => by
    rw [memU] at hd ⊢
    rcases hd with q | rfl | rfl
    · exact .inl (h.oth q)
    · exact .inr (.inr ho0)
    · exact .inr (.inl ho1)⟩
  have hxn0 : x ≠ n0 := fun e => hd0 (e ▸ hxr)
  have hyn0 : y ≠ n0 := fun e => hd0 (e ▸ hyr)
  have memM : ∀ z, z ∈ ringsOf Vs → z ∈ ringsOf M := fun z hz => pM.mem_iff.2 (List.mem_cons_of_mem _ hz)
  have n0M : n0 ∈ ringsOf M := pM.mem_iff.2 (List.mem_cons_self ..)
  -- the next darts of the longer rings
  have s1 : sgF Us x = n0 := by rw [sU, b3 x (memM x hxr) hxy, a1]
  have s2 : sgF Us n0 = sgF Vs x := by rw [sU, b3 n0 n0M (fun e => hyn0 e.symm), a2]
  have s3 : sgF Us y = n1 := by rw [sU, b1]
  have s4 : sgF Us n1 = sgF Vs y := by rw [sU, b2, a3 y hyr (fun e => hxy e.symm)]
  have s5 : ∀ z ∈ ringsOf Vs, z ≠ x → z ≠ y → sgF Us z = sgF Vs z := fun z hz e1 e2 => by rw [sU, b3 z (memM z hz) e2, a3 z hz e1]
  obtain ⟨P, hP, -⟩ := orbs_reps h.phi h.l80 (dsE Es) h.ds
  have hab : othD x ≠ othD y := fun e => hxy (by rw [← oth_oth x, e, oth_oth])
  obtain ⟨P', hP', h1, h2⟩ := sides (f := phF Vs) (f' := phF Us) (L := ringsOf Vs) (L' := ringsOf Us) h.phi hR.phi (a := othD x) (b := othD y) (n0 := n0) (n1 := n1) (h.oth hxr) (h.oth hyr) hab hd0 hd1 h01 memU
    (by show sgF Us (othD (othD x)) = n0; rw [oth_oth, s1])
    (by show sgF Us (othD n0) = sgF Vs (othD (othD y)); rw [oth_oth, ho0, s4])
    (by show sgF Us (othD (othD y)) = n1; rw [oth_oth, s3])
    (by show sgF Us (othD n1) = sgF Vs (othD (othD x)); rw [oth_oth, ho1, s2])
    (fun z hz e1 e2 => by
      show sgF Us (othD z) = sgF Vs (othD z)
      exact s5 _ (h.oth hz) (fun e => e1 (by rw [← e, oth_oth])) (fun e => e2 (by rw [← e, oth_oth]))) hP
  refine ⟨hR, memU, ?_, P, P', hP, hP', h1, h2⟩
  have l1 := pW.length_eq
  have l2 := pM.length_eq
  have := h.l80
  rw [List.length_cons] at l1 l2
  omega
end Go.Proofs.Ytjkbcpikdkidhaa
