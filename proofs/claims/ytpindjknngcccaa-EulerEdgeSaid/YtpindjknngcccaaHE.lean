/- Several texts in one. -/
import Derived.Test.YtpindjknngcccaaGV
import Derived.Test.YtpindjknngcccaaHD
import Derived.Test.YtpindjknngcccaaCm13n
import Derived.Test.YtpindjknngcccaaGN
import Derived.Test.YtpindjknngcccaaFcU
import Derived.Test.YtpindjknngcccaaFcV

/- The other way round, in numbers: faces, lone vertices, parts, genus are as they were. -/
namespace Go.Proofs.Ytpindjknngcccaa
open Go.RowKit
set_option linter.unusedSimpArgs false
set_option linter.unusedVariables false

theorem alone_vS (Ws : List VC) : aloneN Ws = ((Ws.map vS).filter fun s => decide (s.2.1 = [])).length := by
  rw [List.filter_map, List.length_map]
  rfl
end Go.Proofs.Ytpindjknngcccaa

/- An edge more between two vertices, in numbers: it joins their two parts, and no others. -/
namespace Go.Proofs.Ytpindjknngcccaa
open Go.RowKit
set_option linter.unusedSimpArgs false
set_option linter.unusedVariables false

def nE : I2 := (8, 1048576)
def insX (b : Bool) (s : Int) (R : List D) : List D := if b then turnD (insR R (0, 0, 0) (8, 1048576, s)) else R
def gN (x y : I2) (v : VC) : (Int × Int) × List D × ByteArray × Int := (v.1, insX (decide (v.1 = y)) 1 (insX (decide (v.1 = x)) 0 v.2.1.2.2.2), v.2.2.1, v.2.2.2)
theorem insR_mem {L : List D} {a d e : D} : e ∈ insR L a d ↔ e = d ∨ e ∈ L := by
  by_cases h : d ∈ L
  · rw [insR, if_pos h]
    constructor
    · exact .inr
    · rintro (rfl | h1)
      · exact h
      · exact h1
  · rw [(insR_perm h).mem_iff, List.mem_cons]
theorem insX_mem {b : Bool} {s : Int} {R : List D} {d : D} : d ∈ insX b s R ↔ d ∈ R ∨ (b = true ∧ d = (8, 1048576, s)) := by
  unfold insX
  cases b with
  | false => simp
  | true =>
    simp only [if_true, (turn_perm _).mem_iff, insR_mem, true_and]
    exact Or.comm
section
variable {Us Vs : List VC} {Es : List EC} {x y : I2}
theorem gN_get (h : Us.map vS = Vs.map (gN x y)) (i : Nat) : (Us[i]?).map vS = (Vs[i]?).map (gN x y) := by
  rw [← List.getElem?_map, h, List.getElem?_map]
theorem ats_edge (h : Us.map vS = Vs.map (gN x y)) (i : Nat) (e : I2) : Ats Us i e ↔ Ats Vs i e ∨ (e = nE ∧ ∃ v, Vs[i]? = some v ∧ (v.1 = x ∨ v.1 = y)) := by
  have h1 := gN_get h i
  unfold Ats
  constructor
  · rintro ⟨u, hu, d, hd, rfl⟩
    rw [hu] at h1
    cases hv : Vs[i]? with
    | none => rw [hv] at h1; cases h1
    | some v =>
      rw [hv] at h1
      have h2 : u.2.1.2.2.2 = (gN x y v).2.1 := congrArg (fun s : (Int × Int) × List D × ByteArray × Int => s.2.1) (Option.some.inj h1)
      rw [h2, gN, insX_mem, insX_mem] at hd
      rcases hd with (hd | ⟨hb, rfl⟩) | ⟨hb, rfl⟩
      · exact .inl ⟨v, rfl, d, hd, rfl⟩
      · exact .inr ⟨rfl, v, rfl, .inl (of_decide_eq_true hb)⟩
      · exact .inr ⟨rfl, v, rfl, .inr (of_decide_eq_true hb)⟩
  · intro hh
    have key : ∀ v, Vs[i]? = some v → ∃ u, Us[i]? = some u ∧ u.2.1.2.2.2 = (gN x y v).2.1 := fun v hv => by
      rw [hv] at h1
      cases hu : Us[i]? with
      | none => rw [hu] at h1; cases h1
      | some u =>
        rw [hu] at h1
        exact ⟨u, rfl, congrArg (fun s : (Int × Int) × List D × ByteArray × Int => s.2.1) (Option.some.inj h1)⟩
    rcases hh with ⟨v, hv, d, hd, rfl⟩ | ⟨rfl, v, hv, hxy⟩
    · obtain ⟨u, hu, e⟩ := key v hv
      exact ⟨u, hu, d, by rw [e, gN, insX_mem, insX_mem]; exact .inl (.inl hd), rfl⟩
    · obtain ⟨u, hu, e⟩ := key v hv
      rcases hxy with hx | hy
      · exact ⟨u, hu, (8, 1048576, 0), by rw [e, gN, insX_mem, insX_mem]; exact .inl (.inr ⟨decide_eq_true hx, rfl⟩), rfl⟩
      · exact ⟨u, hu, (8, 1048576, 1), by rw [e, gN, insX_mem, insX_mem]; exact .inr ⟨decide_eq_true hy, rfl⟩, rfl⟩
theorem name_one (hf : Formed Vs Es) {i k : Nat} {u v : VC} (hu : Vs[i]? = some u) (hv : Vs[k]? = some v) (e : u.1 = v.1) : i = k := by
  have h1 := place_at Vs 0 i u (rise_nodup hf.rv) hu
  have h2 := place_at Vs 0 k v (rise_nodup hf.rv) hv
  rw [e, h2] at h1
  omega
theorem lab_edge (hf : Formed Vs Es) (hno : ∀ e ∈ Es, e.1 ≠ nE) {px py : Nat} {u v : VC} (hx : Vs[px]? = some u) (hy : Vs[py]? = some v) (h : Us.map vS = Vs.map (gN u.1 v.1)) :
    labF Us = joinF (labF Vs) ((labF Vs).getD px 0) ((labF Vs).getD py 0) := by
  have hl : Us.length = Vs.length := by have := congrArg List.length h; simpa using this
  have hpx := (List.getElem?_eq_some_iff.1 hx).1
  have hpy := (List.getElem?_eq_some_iff.1 hy).1
  have h1 := labF_lab Us
  rw [hl] at h1
  refine h1.uniq (((labF_lab Vs).join hpx hpy).of_iff fun f => ?_)
  have hnot : ∀ i, ¬ Ats Vs i nE := fun i ⟨a, ha, d, hd, e⟩ => by
    obtain ⟨q, hq, e1, _⟩ := hf.of_dart (List.mem_of_getElem? ha) hd
    exact hno q hq (e1.trans e.symm)
  constructor
  · rintro hc i k hi hk ⟨e, h2, h3⟩
    have hpq : f px = f py := hc px py hpx hpy (.inr ⟨rfl, rfl⟩)
    rcases (ats_edge h i e).1 h2 with h2 | ⟨e2, a, ha, h2⟩ <;> rcases (ats_edge h k e).1 h3 with h3 | ⟨e3, b, hb, h3⟩
    · exact hc i k hi hk (.inl ⟨e, h2, h3⟩)
    · subst e3; exact absurd h2 (hnot i)
    · subst e2; exact absurd h3 (hnot k)
    · have ei : i = px ∨ i = py := by
        rcases h2 with h2 | h2
        · exact .inl (name_one hf ha hx h2)
        · exact .inr (name_one hf ha hy h2)
      have ek : k = px ∨ k = py := by
        rcases h3 with h3 | h3
        · exact .inl (name_one hf hb hx h3)
        · exact .inr (name_one hf hb hy h3)
      rcases ei with rfl | rfl <;> rcases ek with rfl | rfl <;> first | rfl | exact hpq | exact hpq.symm
  · rintro hc i k hi hk (⟨e, h2, h3⟩ | ⟨rfl, rfl⟩)
    · exact hc i k hi hk ⟨e, (ats_edge h i e).2 (.inl h2), (ats_edge h k e).2 (.inl h3)⟩
    · exact hc _ _ hi hk ⟨nE, (ats_edge h _ nE).2 (.inr ⟨rfl, u, hx, .inl rfl⟩), (ats_edge h _ nE).2 (.inr ⟨rfl, v, hy, .inr rfl⟩)⟩
end
/-- An edge more in a copy. -/
def eN : EC := ((8, 1048576), { data := #[] }, 0)
theorem ClS.pushE {P : Program} {W : World} {lo : Nat} {A : Option Addr} {n c : Nat} {Ws : List VC} {B : Option Addr} {m k : Nat} {Es : List EC} (h : ClS W lo A n c Ws B m k Es) (x : EC) (t ty : TypeId) (i : TypeInfo) (z : Value) (ht : P.underlying t = some (.slice 37)) (hi : P.info? 37 = some i) (hz : i.zero = some z) (hsize : i.size = 4) (hby : i.bytes = 40) (hzs : z.cells.size = 4)
    (hn : m ≤ 1000000) (hlo : lo ≤ W.heap.size) (g : Nat) (hr : RdS W W.heap.size 4 (some ⟨g, 0, none⟩) 1 1 (eC x)) :
    ∃ B' k' W', (Builtin.append_ #[t, t] ty #[.slice B m k, .slice (some ⟨g, 0, none⟩) 1 1]).run P W = .ok (.slice B' (m + 1) k') W' ∧ ClS W' lo A n c Ws B' (m + 1) k' (Es ++ [x]) ∧ Below lo W W' ∧ W.grownBy W' (Value.slice B m k).ownBlock := by
  obtain ⟨v', W2, hrun, hown, hg, hn0, hb⟩ := run_append_own_at (P := P) W lo t ty 37 i z 4 40 ht hi hz hsize hby hzs (by decide) _ m _ h.e ⟨g, 0, none⟩ 1 1 _ hr.len (hr.cell _ rfl) (eC_one x) (by unfold maxLen; omega) (by omega) hlo
  have hk : ∀ k', (Value.slice B m k).ownBlock = some k' → lo ≤ k' := fun k' hk => (h.e.lt k' hk).1
  obtain ⟨B', k', rfl, _⟩ := RdS.of_own hown
  have e : rowsV eC Es ++ eC x = rowsV eC (Es ++ [x]) := by rw [rowsV_app]; simp [rowsV]
  rw [e] at hown
  have keep : ∀ {T : TypeId} {s : Nat} {v : Value} {j : Nat} {xs : List Value}, W.ownsRow lo T s v j xs → 37 ≠ T → W2.ownsRow lo T s v j xs := fun {T s v j xs} ho hT => ho.kept hg (by
    cases hv : v.ownBlock with
    | none => exact .inl rfl
    | some g => exact .inr fun q => own_two h.e ho hT q.symm hv)
  exact ⟨B', k', W2, hrun, ⟨keep h.v (by decide), hown, fun y hy => keep (h.r y hy) (by decide)⟩, (Below.refl lo W).grown hg hlo hk, hg⟩
end Go.Proofs.Ytpindjknngcccaa

/- An edge more, in numbers: rings, next darts, how many faces. -/
namespace Go.Proofs.Ytpindjknngcccaa
open Go.RowKit
set_option linter.unusedSimpArgs false
set_option linter.unusedVariables false

/-- One behind x: what comes next in the longer ring. -/
theorem nxtR_end (B : List D) (x d : D) (hn : (B ++ [x, d]).Nodup) : nxtR (B ++ [x, d]) x = d ∧ nxtR (B ++ [x, d]) d = nxtR (B ++ [x]) x ∧ ∀ z ∈ B, nxtR (B ++ [x, d]) z = nxtR (B ++ [x]) z := by
  have hn1 : (B ++ [x]).Nodup := by
    have : (B ++ [x, d]) = (B ++ [x]) ++ [d] := by simp
    rw [this] at hn
    exact (List.nodup_append.1 hn).1
  have g : ∀ (i : Nat) (h : i < B.length), (B ++ [x, d]).getD i (0, 0, 0) = B[i] := fun i h => by
    rw [List.getD_eq_getElem?_getD, List.getElem?_append_left h, List.getElem?_eq_getElem h]; rfl
  have g' : ∀ (i : Nat) (h : i < B.length), (B ++ [x]).getD i (0, 0, 0) = B[i] := fun i h => by
    rw [List.getD_eq_getElem?_getD, List.getElem?_append_left h, List.getElem?_eq_getElem h]; rfl
  have gx : (B ++ [x, d]).getD B.length (0, 0, 0) = x := by
    rw [List.getD_eq_getElem?_getD, List.getElem?_append_right (Nat.le_refl _), Nat.sub_self]; rfl
  have gx' : (B ++ [x]).getD B.length (0, 0, 0) = x := by
    rw [List.getD_eq_getElem?_getD, List.getElem?_append_right (Nat.le_refl _), Nat.sub_self]; rfl
  have gd : (B ++ [x, d]).getD (B.length + 1) (0, 0, 0) = d := by
    rw [List.getD_eq_getElem?_getD, List.getElem?_append_right (by omega), show B.length + 1 - B.length = 1 by omega]; rfl
  have hl : (B ++ [x, d]).length = B.length + 2 := by simp
  have hl' : (B ++ [x]).length = B.length + 1 := by simp
  have g0 : (B ++ [x, d]).getD 0 (0, 0, 0) = (B ++ [x]).getD 0 (0, 0, 0) := by
    cases B with
    | nil => rfl
    | cons b r => rfl
  refine ⟨?_, ?_, fun z hz => ?_⟩
  · have := nxtR_get hn (k := B.length) (by omega)
    rw [gx, hl, Nat.mod_eq_of_lt (by omega), gd] at this
    exact this
  · have h1 := nxtR_get hn (k := B.length + 1) (by omega)
    rw [gd, hl, show B.length + 1 + 1 = B.length + 2 by omega, Nat.mod_self] at h1
    have h2 := nxtR_get hn1 (k := B.length) (by omega)
    rw [gx', hl', Nat.mod_self] at h2
    rw [h1, h2, g0]
  · obtain ⟨i, hi, rfl⟩ := List.getElem_of_mem hz
    have h1 := nxtR_get hn (k := i) (by omega)
    rw [g i hi, hl, Nat.mod_eq_of_lt (by omega)] at h1
    have h2 := nxtR_get hn1 (k := i) (by omega)
    rw [g' i hi, hl', Nat.mod_eq_of_lt (by omega)] at h2
    rw [h1, h2]
    by_cases q : i + 1 < B.length
    · rw [g _ q, g' _ q]
    · have e : i + 1 = B.length := by omega
      rw [e, gx, gx']
theorem insR_in {L : List D} {x d : D} (hx : x ∈ L) (hd : ¬ d ∈ L) : ∃ X Y, L = X ++ x :: Y ∧ insR L x d = X ++ x :: d :: Y := by
  obtain ⟨e1, e2⟩ := idxD_mem hx
  obtain ⟨i, gi⟩ : ∃ z, L.idxOf x = z := ⟨_, rfl⟩
  have ex : L[L.idxOf x]'e2 = x := List.getElem_idxOf e2
  rw [gi] at e1 e2
  have ei : (max (idxD L x) 0).toNat = i := by rw [e1]; omega
  have ex' : L[i]'e2 = x := by
    have : L[L.idxOf x]? = some x := by rw [List.getElem?_eq_getElem (by omega), ex]
    rw [gi, List.getElem?_eq_getElem e2] at this
    exact Option.some.inj this
  refine ⟨L.take i, L.drop (i + 1), ?_, ?_⟩
  · have := List.take_append_drop i L
    rw [List.drop_eq_getElem_cons e2, ex'] at this
    exact this.symm
  · rw [insR, if_neg hd, ei, List.take_succ_eq_append_getElem e2, ex']
    simp
theorem nxtR_ins {R : List D} {x d : D} (hn : R.Nodup) (hx : x ∈ R) (hd : ¬ d ∈ R) : nxtR (turnD (insR R x d)) x = d ∧ nxtR (turnD (insR R x d)) d = nxtR R x ∧ ∀ z ∈ R, z ≠ x → nxtR (turnD (insR R x d)) z = nxtR R z := by
  have hni : (insR R x d).Nodup := (insR_perm hd).nodup_iff.2 (List.nodup_cons.2 ⟨hd, hn⟩)
  obtain ⟨X, Y, e, ei⟩ := insR_in hx hd
  have r1 : Rot (insR R x d) ((Y ++ X) ++ [x, d]) := ⟨X ++ [x, d], Y, by rw [ei]; simp, by simp⟩
  have r2 : Rot R ((Y ++ X) ++ [x]) := ⟨X ++ [x], Y, by rw [e]; simp, by simp⟩
  have hnB : ((Y ++ X) ++ [x, d]).Nodup := r1.nodup hni
  obtain ⟨h1, h2, h3⟩ := nxtR_end (Y ++ X) x d hnB
  have ht : ∀ z, z ∈ insR R x d → nxtR (turnD (insR R x d)) z = nxtR ((Y ++ X) ++ [x, d]) z := fun z hz => by
    rw [nxtR_rot (rot_turn _) hni hz, nxtR_rot r1 hni hz]
  have hm : ∀ z, z ∈ insR R x d ↔ z = d ∨ z ∈ R := fun z => insR_mem
  refine ⟨?_, ?_, fun z hz hzx => ?_⟩
  · rw [ht x ((hm x).2 (.inr hx)), h1]
  · rw [ht d ((hm d).2 (.inl rfl)), h2, nxtR_rot r2 hn hx]
  · have hzB : z ∈ Y ++ X := by
      have : z ∈ (Y ++ X) ++ [x] := (r2.mem z).1 hz
      rcases List.mem_append.1 this with h | h
      · exact h
      · exact absurd (List.mem_singleton.1 h) hzx
    rw [ht z ((hm z).2 (.inr hz)), h3 z hzB, nxtR_rot r2 hn hz]
/-- A vertex with one dart more, if it is the one named p. -/
def mI (p : I2) (x d : D) (v : VC) : VC := if v.1 = p then (v.1, (v.2.1.1, v.2.1.2.1, v.2.1.2.2.1, turnD (insR v.2.1.2.2.2 x d)), v.2.2) else v
theorem mI_name (p : I2) (x d : D) (v : VC) : (mI p x d v).1 = v.1 := by unfold mI; split <;> rfl
theorem mI_names (p : I2) (x d : D) (Vs : List VC) : (Vs.map (mI p x d)).map (·.1) = Vs.map (·.1) := by
  rw [List.map_map]
  exact List.map_congr_left fun v _ => mI_name p x d v
theorem ins_rings {Vs : List VC} (hm : (Vs.map (·.1)).Nodup) {v : VC} (hv : v ∈ Vs) {x d : D} (hd : d ∉ ringsOf Vs) : (ringsOf (Vs.map (mI v.1 x d))).Perm (d :: ringsOf Vs) := by
  obtain ⟨k, hk, ek⟩ := List.getElem_of_mem hv
  have e : Vs.map (mI v.1 x d) = Vs.set k (mI v.1 x d v) := by
    refine List.ext_getElem (by simp) fun i h1 h2 => ?_
    have hi : i < Vs.length := by simpa using h1
    rw [List.getElem_map, List.getElem_set]
    split
    · rename_i q; subst q; rw [ek]
    · rename_i q
      unfold mI
      rw [if_neg]
      intro e
      have e1 : (Vs.map (·.1))[i]'(by simpa using hi) = (Vs.map (·.1))[k]'(by simpa using hk) := by rw [List.getElem_map, List.getElem_map, ek, e]
      exact q ((List.getElem_inj hm).1 e1).symm
  rw [e]
  have hn : ¬ d ∈ v.2.1.2.2.2 := fun h => hd (ring_mem.2 ⟨v, hv, h⟩)
  refine rings_set (u := v) (by rw [List.getElem?_eq_getElem hk, ek]) ?_
  unfold mI
  rw [if_pos rfl]
  exact (turn_perm _).trans (insR_perm hn)
theorem ins_sig {Vs : List VC} (hm : (Vs.map (·.1)).Nodup) (hn : (ringsOf Vs).Nodup) {v : VC} (hv : v ∈ Vs) {x d : D} (hx : x ∈ v.2.1.2.2.2) (hd : d ∉ ringsOf Vs) :
    sgF (Vs.map (mI v.1 x d)) x = d ∧ sgF (Vs.map (mI v.1 x d)) d = sgF Vs x ∧ ∀ z ∈ ringsOf Vs, z ≠ x → sgF (Vs.map (mI v.1 x d)) z = sgF Vs z := by
  have hn2 : (ringsOf (Vs.map (mI v.1 x d))).Nodup := (ins_rings hm hv hd).nodup_iff.2 (List.nodup_cons.2 ⟨hd, hn⟩)
  have hdv : ¬ d ∈ v.2.1.2.2.2 := fun h => hd (ring_mem.2 ⟨v, hv, h⟩)
  have hvn := ring_nodup hn hv
  obtain ⟨h1, h2, h3⟩ := nxtR_ins hvn hx hdv
  have hw : mI v.1 x d v ∈ Vs.map (mI v.1 x d) := List.mem_map.2 ⟨v, hv, rfl⟩
  have er : (mI v.1 x d v).2.1.2.2.2 = turnD (insR v.2.1.2.2.2 x d) := by unfold mI; rw [if_pos rfl]
  have hmm : ∀ z, z ∈ turnD (insR v.2.1.2.2.2 x d) ↔ z = d ∨ z ∈ v.2.1.2.2.2 := fun z => by rw [(turn_perm _).mem_iff, insR_mem]
  refine ⟨?_, ?_, fun z hz hzx => ?_⟩
  · rw [sgF_at hn2 hw (by rw [er, hmm]; exact .inr hx), er, h1]
  · rw [sgF_at hn2 hw (by rw [er, hmm]; exact .inl rfl), er, h2, sgF_at hn hv hx]
  · obtain ⟨u, hu, hzu⟩ := ring_mem.1 hz
    by_cases q : u.1 = v.1
    · have e : u = v := by
        obtain ⟨i, hi, ei⟩ := List.getElem_of_mem hu
        obtain ⟨k, hk, ek⟩ := List.getElem_of_mem hv
        have e1 : (Vs.map (·.1))[i]'(by simpa using hi) = (Vs.map (·.1))[k]'(by simpa using hk) := by rw [List.getElem_map, List.getElem_map, ei, ek, q]
        have := (List.getElem_inj hm).1 e1
        subst this
        rw [← ei, ← ek]
      subst e
      rw [sgF_at hn2 hw (by rw [er, hmm]; exact .inr hzu), er, h3 z hzu hzx, sgF_at hn hv hzu]
    · have hwu : mI v.1 x d u ∈ Vs.map (mI v.1 x d) := List.mem_map.2 ⟨u, hu, rfl⟩
      have eu : mI v.1 x d u = u := by unfold mI; rw [if_neg q]
      rw [eu] at hwu
      rw [sgF_at hn2 hwu hzu, sgF_at hn hu hzu]
/-- Rings that hold what the other sides of their darts are: no word on edges. -/
structure Rung (Vs : List VC) : Prop where
  nd : (ringsOf Vs).Nodup
  ot : ∀ d ∈ ringsOf Vs, othD d ∈ ringsOf Vs
section
variable {Vs : List VC}
theorem Rung.phi (h : Rung Vs) : Pm (phF Vs) (ringsOf Vs) :=
  ⟨h.nd, fun x hx => (sig_pm h.nd).cl _ (h.ot x hx), fun x hx y hy e => by
    have := (sig_pm h.nd).inj _ (h.ot x hx) _ (h.ot y hy) e
    rw [← oth_oth x, this, oth_oth]⟩
theorem Rung.trG (h : Rung Vs) (x : D) : ∀ (k : Nat) (y : D), y ∈ ringsOf Vs → trG (sigM Vs) x k y = orbT (phF Vs) x k y
  | 0, _, _ => rfl
  | k + 1, y, hy => by
    have hz := h.phi.cl y hy
    rw [Go.Proofs.Ytpindjknngcccaa.trG, orbT, sigM_eq h.nd, if_pos (h.ot y hy)]
    show y :: (if phF Vs y = x then [] else Go.Proofs.Ytpindjknngcccaa.trG (sigM Vs) x k (phF Vs y)) = _
    rw [Rung.trG h x k _ hz]
theorem Rung.face (h : Rung Vs) (N : Nat) {x : D} (hx : x ∈ ringsOf Vs) : faceL (sigM Vs) N x = orbT (phF Vs) x N x := by
  rw [faceL, sigM_eq h.nd, if_pos hx, ← h.trG x N x hx]
  rfl
theorem Rung.faces (h : Rung Vs) (N : Nat) : ∀ (l T : List D), (∀ x ∈ l, x ∈ ringsOf Vs) → facesF (sigM Vs) N l T = orbsF (phF Vs) N l T
  | [], _, _ => rfl
  | x :: r, T, hl => by
    have hx := hl x (List.mem_cons_self ..)
    have hr := fun y hy => hl y (List.mem_cons_of_mem _ hy)
    rw [facesF, orbsF, Rung.faces h N r _ hr, Rung.faces h N r _ hr, h.face N hx]
    by_cases q : x ∈ T
    · rw [if_pos q, if_pos q]
    · rw [if_neg q, if_neg q]
theorem Rung.keys (h : Rung Vs) (hw : ∀ d ∈ ringsOf Vs, wfD d) {S : List D} (k : KeysD (sigM Vs) S) : S.length = (ringsOf Vs).length := by
  have hm : ∀ x, x ∈ S ↔ x ∈ ringsOf Vs := fun x => by
    constructor
    · intro hx
      have h1 := (k.2.2 x (k.2.1 x hx)).1 hx
      rw [sigM_eq h.nd] at h1
      by_cases q : x ∈ ringsOf Vs
      · exact q
      · rw [if_neg q] at h1; cases h1
    · intro hx
      refine (k.2.2 x (hw x hx)).2 ?_
      rw [sigM_eq h.nd, if_pos hx]
      rfl
  exact Nat.le_antisymm (nd_le k.1 fun x hx => (hm x).1 hx) (nd_le h.nd fun x hx => (hm x).2 hx)
theorem Rung.all (h : Rung Vs) {N : Nat} (hN : (ringsOf Vs).length ≤ N) : ∃ P, Reps (phF Vs) (ringsOf Vs) P ∧ (facesF (sigM Vs) N (sortD (dsV Vs)) []).length = P.length := by
  have hl : ∀ x, x ∈ sortD (dsV Vs) ↔ x ∈ ringsOf Vs := fun x => (List.mergeSort_perm _ _).mem_iff
  obtain ⟨P, hP, e⟩ := orbs_reps h.phi hN (sortD (dsV Vs)) hl
  exact ⟨P, hP, by rw [h.faces N _ _ (fun x hx => (hl x).1 hx), e, List.length_map]⟩
end
/-- An edge more: behind x it begins, behind y it ends. -/
theorem more_faces {Vs Us : List VC} {Es : List EC} (h : Formed Vs Es) (hno : ∀ e ∈ Es, e.1 ≠ nE) {x y : D} (hxy : x ≠ y) {v u : VC} (hv : v ∈ Vs) (hx : x ∈ v.2.1.2.2.2) (hu : u ∈ Vs) (hy : y ∈ u.2.1.2.2.2)
    (hU : Us.map vS = ((Vs.map (mI v.1 x (8, 1048576, 0))).map (mI u.1 y (8, 1048576, 1))).map vS) :
    Rung Us ∧ (∀ d, d ∈ ringsOf Us ↔ d ∈ ringsOf Vs ∨ d = (8, 1048576, 0) ∨ d = (8, 1048576, 1)) ∧ (ringsOf Us).length ≤ 82 ∧
      ∃ P P', Reps (phF Vs) (ringsOf Vs) P ∧ Reps (phF Us) (ringsOf Us) P' ∧ (Rl (phF Vs) (othD x) (othD y) → P'.length = P.length + 1) ∧ (¬ Rl (phF Vs) (othD x) (othD y) → P'.length + 1 = P.length) := by
  obtain ⟨n0, g0⟩ : ∃ z : D, (8, 1048576, 0) = z := ⟨_, rfl⟩
  obtain ⟨n1, g1⟩ : ∃ z : D, (8, 1048576, 1) = z := ⟨_, rfl⟩
  have h01 : n0 ≠ n1 := by rw [← g0, ← g1]; decide
  have ho0 : othD n0 = n1 := by rw [← g0, ← g1]; rfl
  have ho1 : othD n1 = n0 := by rw [← ho0, oth_oth]
  have hd : ∀ s, ((8, 1048576, s) : D) ∉ ringsOf Vs := fun s q => by
    obtain ⟨e, he, e1, _⟩ := (h.mem _).1 q
    exact hno e he e1
  have hd0 : n0 ∉ ringsOf Vs := g0 ▸ hd 0
  have hd1 : n1 ∉ ringsOf Vs := g1 ▸ hd 1
  rw [g0, g1] at hU ⊢
  have hm := rise_nodup h.rv
  have hxr : x ∈ ringsOf Vs := ring_mem.2 ⟨v, hv, hx⟩
  have hyr : y ∈ ringsOf Vs := ring_mem.2 ⟨u, hu, hy⟩
  obtain ⟨M, gM⟩ : ∃ z, Vs.map (mI v.1 x n0) = z := ⟨_, rfl⟩
  have pM := ins_rings hm hv (x := x) hd0
  obtain ⟨a1, a2, a3⟩ := ins_sig hm h.once hv hx hd0
  have mM := mI_names v.1 x n0 Vs
  have hu' : mI v.1 x n0 u ∈ M := gM ▸ List.mem_map.2 ⟨u, hu, rfl⟩
  have hy' : y ∈ (mI v.1 x n0 u).2.1.2.2.2 := by
    unfold mI
    split
    · show y ∈ turnD (insR u.2.1.2.2.2 x n0)
      rw [(turn_perm _).mem_iff, insR_mem]
      exact .inr hy
    · exact hy
  have en : (mI v.1 x n0 u).1 = u.1 := mI_name _ _ _ _
  rw [gM] at hU pM a1 a2 a3 mM
  have nM : (ringsOf M).Nodup := pM.nodup_iff.2 (List.nodup_cons.2 ⟨hd0, h.once⟩)
  have hmM : (M.map (·.1)).Nodup := mM ▸ hm
  have hd1M : n1 ∉ ringsOf M := fun q => by
    rcases List.mem_cons.1 (pM.mem_iff.1 q) with e | e
    · exact h01 e.symm
    · exact hd1 e
  have pW := ins_rings hmM hu' (x := y) hd1M
  obtain ⟨b1, b2, b3⟩ := ins_sig hmM nM hu' hy' hd1M
  rw [en] at pW b1 b2 b3
  have rU := rings_same hU
  have sU : ∀ z, sgF Us z = sgF (M.map (mI u.1 y n1)) z := fun z => by rw [sgF, sgF, sigM_same hU]
  rw [← rU] at pW
  have memU : ∀ d, d ∈ ringsOf Us ↔ d ∈ ringsOf Vs ∨ d = n0 ∨ d = n1 := fun d => by
    rw [pW.mem_iff, List.mem_cons, pM.mem_iff, List.mem_cons]
    constructor
    · rintro (q | q | q)
      · exact .inr (.inr q)
      · exact .inr (.inl q)
      · exact .inl q
    · rintro (q | q | q)
      · exact .inr (.inr q)
      · exact .inr (.inl q)
      · exact .inl q
  have nU : (ringsOf Us).Nodup := pW.nodup_iff.2 (List.nodup_cons.2 ⟨hd1M, nM⟩)
  have hR : Rung Us := ⟨nU, fun d hd => by
    rw [memU] at hd ⊢
    rcases hd with q | rfl | rfl
    · exact .inl (h.oth q)
    · exact .inr (.inr ho0)
    · exact .inr (.inl ho1)⟩
  have hxn0 : x ≠ n0 := fun e => hd0 (e ▸ hxr)
  have hyn0 : y ≠ n0 := fun e => hd0 (e ▸ hyr)
  have memM : ∀ z, z ∈ ringsOf Vs → z ∈ ringsOf M := fun z hz => pM.mem_iff.2 (List.mem_cons_of_mem _ hz)
  have n0M : n0 ∈ ringsOf M := pM.mem_iff.2 (List.mem_cons_self ..)
  -- the next darts of the longer rings
  have s1 : sgF Us x = n0 := by rw [sU, b3 x (memM x hxr) hxy, a1]
  have s2 : sgF Us n0 = sgF Vs x := by rw [sU, b3 n0 n0M (fun e => hyn0 e.symm), a2]
  have s3 : sgF Us y = n1 := by rw [sU, b1]
  have s4 : sgF Us n1 = sgF Vs y := by rw [sU, b2, a3 y hyr (fun e => hxy e.symm)]
  have s5 : ∀ z ∈ ringsOf Vs, z ≠ x → z ≠ y → sgF Us z = sgF Vs z := fun z hz e1 e2 => by rw [sU, b3 z (memM z hz) e2, a3 z hz e1]
  obtain ⟨P, hP, -⟩ := orbs_reps h.phi h.l80 (dsE Es) h.ds
  have hab : othD x ≠ othD y := fun e => hxy (by rw [← oth_oth x, e, oth_oth])
  obtain ⟨P', hP', h1, h2⟩ := sides (f := phF Vs) (f' := phF Us) (L := ringsOf Vs) (L' := ringsOf Us) h.phi hR.phi (a := othD x) (b := othD y) (n0 := n0) (n1 := n1) (h.oth hxr) (h.oth hyr) hab hd0 hd1 h01 memU
    (by show sgF Us (othD (othD x)) = n0; rw [oth_oth, s1])
    (by show sgF Us (othD n0) = sgF Vs (othD (othD y)); rw [oth_oth, ho0, s4])
    (by show sgF Us (othD (othD y)) = n1; rw [oth_oth, s3])
    (by show sgF Us (othD n1) = sgF Vs (othD (othD x)); rw [oth_oth, ho1, s2])
    (fun z hz e1 e2 => by
      show sgF Us (othD z) = sgF Vs (othD z)
      exact s5 _ (h.oth hz) (fun e => e1 (by rw [← e, oth_oth])) (fun e => e2 (by rw [← e, oth_oth]))) hP
  refine ⟨hR, memU, ?_, P, P', hP, hP', h1, h2⟩
  have l1 := pW.length_eq
  have l2 := pM.length_eq
  have := h.l80
  rw [List.length_cons] at l1 l2
  omega
end Go.Proofs.Ytpindjknngcccaa

/- An edge more, in numbers: parts, lone vertices, the genus. -/
namespace Go.Proofs.Ytpindjknngcccaa
open Go.RowKit
set_option linter.unusedSimpArgs false
set_option linter.unusedVariables false

theorem ats_vS {Us Ms : List VC} (h : Us.map vS = Ms.map vS) (i : Nat) (y : I2) : Ats Us i y → Ats Ms i y := by
  rintro ⟨u, hu, x, hx, e⟩
  have hi := congrArg (fun L : List ((Int × Int) × List D × ByteArray × Int) => L[i]?) h
  simp only [List.getElem?_map] at hi
  rw [hu] at hi
  cases hv : Ms[i]? with
  | none => rw [hv] at hi; cases hi
  | some v =>
    rw [hv] at hi
    have e1 : vS u = vS v := Option.some.inj hi
    have e2 : u.2.1.2.2.2 = v.2.1.2.2.2 := congrArg (fun s : (Int × Int) × List D × ByteArray × Int => s.2.1) e1
    exact ⟨v, hv, x, e2 ▸ hx, e⟩
theorem ats_map {Vs : List VC} {F G : VC → VC} (h : ∀ v ∈ Vs, ∀ d, d ∈ (F v).2.1.2.2.2 → d ∈ (G v).2.1.2.2.2) (i : Nat) (y : I2) : Ats (Vs.map F) i y → Ats (Vs.map G) i y := by
  rintro ⟨u, hu, d, hd, e1⟩
  rw [List.getElem?_map] at hu
  cases hv : Vs[i]? with
  | none => rw [hv] at hu; cases hu
  | some v =>
    rw [hv] at hu
    obtain rfl := Option.some.inj hu
    exact ⟨G v, by rw [List.getElem?_map, hv]; rfl, d, h v (List.mem_of_getElem? hv) d hd, e1⟩
theorem mI_mem {p : I2} {x d e : D} {v : VC} : e ∈ (mI p x d v).2.1.2.2.2 ↔ e ∈ v.2.1.2.2.2 ∨ (v.1 = p ∧ e = d) := by
  unfold mI
  split
  · rename_i q
    show e ∈ turnD (insR v.2.1.2.2.2 x d) ↔ _
    rw [(turn_perm _).mem_iff, insR_mem]
    constructor
    · rintro (h | h)
      · exact .inr ⟨q, h⟩
      · exact .inl h
    · rintro (h | ⟨_, h⟩)
      · exact .inr h
      · exact .inl h
  · rename_i q
    constructor
    · exact .inl
    · rintro (h | ⟨h, _⟩)
      · exact h
      · exact absurd h q
def wN (p q : I2) (v : VC) : VC := (v.1, (v.2.1.1, v.2.1.2.1, v.2.1.2.2.1, (gN p q v).2.1), v.2.2)
theorem wN_mem {p q : I2} {v : VC} {e : D} : e ∈ (wN p q v).2.1.2.2.2 ↔ (e ∈ v.2.1.2.2.2 ∨ (v.1 = p ∧ e = (8, 1048576, 0))) ∨ (v.1 = q ∧ e = (8, 1048576, 1)) := by
  show e ∈ insX (decide (v.1 = q)) 1 (insX (decide (v.1 = p)) 0 v.2.1.2.2.2) ↔ _
  rw [insX_mem, insX_mem, decide_eq_true_iff, decide_eq_true_iff]
def mN (p q : I2) (x y : D) (v : VC) : VC := mI q y (8, 1048576, 1) (mI p x (8, 1048576, 0) v)
theorem mN_mem {p q : I2} {x y : D} {v : VC} {e : D} : e ∈ (mN p q x y v).2.1.2.2.2 ↔ (e ∈ v.2.1.2.2.2 ∨ (v.1 = p ∧ e = (8, 1048576, 0))) ∨ (v.1 = q ∧ e = (8, 1048576, 1)) := by
  unfold mN
  rw [mI_mem, mI_mem, mI_name]
theorem mN_map (Vs : List VC) (p q : I2) (x y : D) : (Vs.map (mI p x (8, 1048576, 0))).map (mI q y (8, 1048576, 1)) = Vs.map (mN p q x y) := by
  rw [List.map_map]
  rfl
section
variable {Vs Us : List VC} {Es : List EC}
theorem name_eq (hf : Formed Vs Es) {u v : VC} (hu : u ∈ Vs) (hv : v ∈ Vs) (e : u.1 = v.1) : u = v := by
  obtain ⟨i, hi⟩ := List.getElem?_of_mem hu
  obtain ⟨k, hk⟩ := List.getElem?_of_mem hv
  have := name_one hf hi hk e
  subst this
  rw [hi] at hk
  exact Option.some.inj hk
theorem lab_more (hf : Formed Vs Es) (hno : ∀ e ∈ Es, e.1 ≠ nE) {px py : Nat} {v u : VC} (hv : Vs[px]? = some v) (hu : Vs[py]? = some u) (x y : D)
    (hU : Us.map vS = ((Vs.map (mI v.1 x (8, 1048576, 0))).map (mI u.1 y (8, 1048576, 1))).map vS) : labF Us = joinF (labF Vs) ((labF Vs).getD px 0) ((labF Vs).getD py 0) := by
  rw [mN_map] at hU
  have h1 := lab_edge (Us := Vs.map (wN v.1 u.1)) hf hno hv hu (by rw [List.map_map]; rfl)
  rw [← h1]
  have hl : Us.length = (Vs.map (wN v.1 u.1)).length := by have := congrArg List.length hU; simpa using this
  exact labF_same hl fun i e => ⟨fun h => ats_map (fun v _ d h => wN_mem.2 (mN_mem.1 h)) i e (ats_vS hU i e h), fun h => ats_vS hU.symm i e (ats_map (fun v _ d h => mN_mem.2 (wN_mem.1 h)) i e h)⟩
theorem alone_more (hf : Formed Vs Es) {x y : D} {v u : VC} (hv : v ∈ Vs) (hx : x ∈ v.2.1.2.2.2) (hu : u ∈ Vs) (hy : y ∈ u.2.1.2.2.2)
    (hU : Us.map vS = ((Vs.map (mI v.1 x (8, 1048576, 0))).map (mI u.1 y (8, 1048576, 1))).map vS) : aloneN Us = aloneN Vs := by
  rw [alone_vS, hU, ← alone_vS, mN_map]
  unfold aloneN
  rw [List.filter_map, List.length_map]
  congr 1
  refine List.filter_congr fun w hw => ?_
  show decide ((mN v.1 u.1 x y w).2.1.2.2.2 = []) = decide (w.2.1.2.2.2 = [])
  refine decide_eq_decide.2 ⟨fun h => List.eq_nil_iff_forall_not_mem.2 fun d hd => ?_, fun h => List.eq_nil_iff_forall_not_mem.2 fun d hd => ?_⟩
  · have h1 := (mN_mem (p := v.1) (q := u.1) (x := x) (y := y) (v := w) (e := d)).2 (.inl (.inl hd))
    rw [h] at h1
    cases h1
  · rcases mN_mem.1 hd with (q | ⟨q, _⟩) | ⟨q, _⟩
    · rw [h] at q; cases q
    · have e := name_eq hf hw hv q
      rw [e] at h
      rw [h] at hx
      cases hx
    · have e := name_eq hf hw hu q
      rw [e] at h
      rw [h] at hy
      cases hy
theorem tdiv2 (t : Nat) : (2 * (t : Int)).tdiv 2 = (t : Int) := by
  rw [Int.tdiv_eq_ediv_of_nonneg (by omega)]
  omega
theorem more_genus (hf : Formed Vs Es) (hno : ∀ e ∈ Es, e.1 ≠ nE) {x y : D} (hxy : x ≠ y) {v u : VC} (hv : v ∈ Vs) (hx : x ∈ v.2.1.2.2.2) (hu : u ∈ Vs) (hy : y ∈ u.2.1.2.2.2)
    (hU : Us.map vS = ((Vs.map (mI v.1 x (8, 1048576, 0))).map (mI u.1 y (8, 1048576, 1))).map vS) {fc : Bool} (hfc : fc = true ↔ Rl (phF Vs) (othD x) (othD y)) :
    ∃ P', Reps (phF Us) (ringsOf Us) P' ∧ P'.length ≤ 82 ∧ (2 * ((cntF (labF Us) : Nat) : Int) - (Vs.length : Int) + ((Es.length + 1 : Nat) : Int) - ((P'.length + aloneN Us : Nat) : Int)).tdiv 2 = genF Vs Es + (if (!fc && togF Vs v.1 u.1) = true then 1 else 0) := by
  obtain ⟨hR, hmem, hl, P, P', hP, hP', hy1, hy2⟩ := more_faces hf hno hxy hv hx hu hy hU
  obtain ⟨t, e⟩ := euler_num hf
  have hg := gen_num hf e
  obtain ⟨P0, hP0, ef⟩ := facN_reps hf
  have hPl : facN Vs Es = P.length := ef.trans (hP0.len hf.phi hP)
  obtain ⟨px, hpx⟩ := List.getElem?_of_mem hv
  obtain ⟨py, hpy⟩ := List.getElem?_of_mem hu
  have hL := lab_more hf hno hpx hpy x y hU
  have hA := alone_more hf hv hx hu hy hU
  have hll : (labF Vs).length = Vs.length := (labF_lab Vs).len
  have hj := cnt_join (labF_lab Vs).ok (p := px) (q := py) (by have := (List.getElem?_eq_some_iff.1 hpx).1; omega) (by have := (List.getElem?_eq_some_iff.1 hpy).1; omega)
  rw [← hL] at hj
  have htog := tog_at (rise_nodup hf.rv) hpx hpy
  have hxr := ring_mem.2 ⟨v, hv, hx⟩
  have hyr := ring_mem.2 ⟨u, hu, hy⟩
  have hface : fc = true → (labF Vs).getD px 0 = (labF Vs).getD py 0 := fun h => by
    have h1 := lab_face hf (hf.oth hxr) (hfc.1 h)
    rw [lab_oth hf hyr, lab_oth hf hxr, plD_eq hf.once hpy hy, plD_eq hf.once hpx hx] at h1
    exact h1.symm
  rw [hg, hA]
  refine ⟨P', hP', Nat.le_trans (nd_le hP'.nd hP'.sub) hl, ?_⟩
  cases fc with
  | true =>
    have h1 := hy1 (hfc.1 rfl)
    rw [if_pos (hface rfl)] at hj
    have e2 : (2 * ((cntF (labF Us) : Nat) : Int) - (Vs.length : Int) + ((Es.length + 1 : Nat) : Int) - ((P'.length + aloneN Vs : Nat) : Int)) = 2 * (t : Int) := by omega
    rw [e2, tdiv2]
    simp
  | false =>
    have h2 := hy2 (fun r => by have := hfc.2 r; cases this)
    rw [htog]
    by_cases q : (labF Vs).getD px 0 = (labF Vs).getD py 0
    · rw [if_pos q] at hj
      have e2 : (2 * ((cntF (labF Us) : Nat) : Int) - (Vs.length : Int) + ((Es.length + 1 : Nat) : Int) - ((P'.length + aloneN Vs : Nat) : Int)) = 2 * ((t + 1 : Nat) : Int) := by omega
      rw [e2, tdiv2, q]
      simp
    · rw [if_neg q] at hj
      have e2 : (2 * ((cntF (labF Us) : Nat) : Int) - (Vs.length : Int) + ((Es.length + 1 : Nat) : Int) - ((P'.length + aloneN Vs : Nat) : Int)) = 2 * (t : Int) := by omega
      rw [e2, tdiv2, beq_eq_false_iff_ne.2 q]
      simp
end
end Go.Proofs.Ytpindjknngcccaa

/- What the program tells of a diagram with an edge more: its genus. -/
namespace Go.Proofs.Ytpindjknngcccaa
open Go.RowKit
set_option linter.unusedSimpArgs false
set_option linter.unusedVariables false


section
variable {A2 : Option Addr} {n c2 : Nat} {Us Vs : List VC} {B3 : Option Addr} {m k3 : Nat} {Es Es2 : List EC}
theorem more_gen_any (hf : Formed Vs Es) (hg : GoodD Vs Es) (hno : ∀ e ∈ Es, e.1 ≠ nE) {x y : D} (hxy : x ≠ y) {v u : VC} (hv : v ∈ Vs) (hx : x ∈ v.2.1.2.2.2) (hu : u ∈ Vs) (hy : y ∈ u.2.1.2.2.2)
    (hU : Us.map vS = ((Vs.map (mI v.1 x (8, 1048576, 0))).map (mI u.1 y (8, 1048576, 1))).map vS) {fc : Bool} (hfc : fc = true ↔ Rl (phF Vs) (othD x) (othD y)) (hn : Vs.length = n) (hm : Es.length = m) :
    ∀ W, DgIn W A2 n c2 Us B3 (m + 1) k3 Es2 → Calls Try.prog 17 #[.agg #[.slice A2 n c2, .slice B3 (m + 1) k3]] W fun e w' => e = .returned (.int .i64 (genF Vs Es + (if (!fc && togF Vs v.1 u.1) = true then 1 else 0))) ∧ Below W.heap.size W w' := fun W h => by
  obtain ⟨P', hP', hl, heq⟩ := more_genus hf hno hxy hv hx hu hy hU hfc
  obtain ⟨hRu, hmem, hl82, -⟩ := more_faces hf hno hxy hv hx hu hy hU
  have hwf : ∀ d ∈ ringsOf Us, wfS d := fun d hd => by
    rcases (hmem d).1 hd with h1 | rfl | rfl
    · exact hf.wfS hg h1
    · exact ⟨⟨by decide, by decide, by decide⟩, by decide, by decide⟩
    · exact ⟨⟨by decide, by decide, by decide⟩, by decide, by decide⟩
  have hr0m : ∀ u ∈ Us, u.2.1.2.1 ≤ 1000000 := fun u hu => by
    have h1 := (h.r u hu).2.dlen
    have h2 := ring_len hu
    omega
  have hsz : ∀ v ∈ Us, ∀ d ∈ v.2.1.2.2.2, wfS d := fun v hv d hd => hwf d (ring_mem.2 ⟨v, hv, hd⟩)
  have hkz : ∀ S, KeysD (sigM Us) S → S.length ≤ 1000000 := fun S hS => by
    have := hRu.keys (fun d hd => (hwf d hd).1) hS
    omega
  have hlz : (dsV Us).length ≤ 1000000 := by rw [dsV_eq]; omega
  have hn24 : n ≤ 24 := by have := hf.v24; omega
  have hm40 : m ≤ 40 := by have := hf.e40; omega
  have hUl : Us.length = n := (dg_lens h).1
  have hal := alone_le Us
  have hcl := cnt_le Us
  rw [hn, hm] at heq
  refine egenus_any A2 n c2 Us B3 (m + 1) k3 Es2 (P'.length + aloneN Us) (cntF (labF Us)) _ W h (by omega) (by omega) (by omega) (by omega) heq (fun W h => ecnt_any A2 n c2 Us B3 (m + 1) k3 Es2 P'.length (cntF (labF Us)) W h (by omega) (by omega) (by omega) (by omega) (fun W h => ?_) (fun W h => count_any A2 n c2 Us B3 (m + 1) k3 Es2 W h (by omega) hr0m (fun v hv d hd => (hsz v hv d hd).1)))
  refine (faces_any A2 n c2 Us B3 (m + 1) k3 Es2 W h (by omega) hr0m hsz hkz hlz).mono ?_
  rintro e w' ⟨S, A', c', X, hS, rfl, -, hX, hb⟩
  obtain ⟨P2, hP2, e2⟩ := hRu.all (N := S.length) (by rw [hRu.keys (fun d hd => (hwf d hd).1) hS]; exact Nat.le_refl _)
  have hl := congrArg List.length hX
  rw [List.length_map, e2, hP2.len hRu.phi hP'] at hl
  rw [hl]
  exact ⟨A', c', rfl, hb⟩
end
end Go.Proofs.Ytpindjknngcccaa
