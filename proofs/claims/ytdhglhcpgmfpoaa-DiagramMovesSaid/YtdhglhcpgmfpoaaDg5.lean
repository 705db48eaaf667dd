/- A dart as a key; a set of darts. -/
import Derived.Test.YtdhglhcpgmfpoaaDg4
import Derived.Maps.OwnSet
import Derived.DeepKeys4
namespace Go.Proofs.Ytdhglhcpgmfpoaa
open Go.RowKit Go.Maps
set_option linter.unusedSimpArgs false
set_option linter.unusedVariables false

def wfD (d : D) : Prop := (Lit.int .i64 d.1).wf = true ∧ (Lit.int .i64 d.2.1).wf = true ∧ (Lit.int .i64 d.2.2).wf = true
def kD (d : D) : Lit := .string (keyBytes [.int .i64 d.1, .int .i64 d.2.1, .int .i64 d.2.2])
theorem wide_dart : (match Try.prog.underlying 36 with | some (.array _ _) | some (.struct _) => true | _ => false) = true := by rw [Try.underlying36]
theorem laid_prog : laidOutB Try.prog = true := by kernel_rfl
theorem law_dart : WideMaps.KeyLaw Try.prog 36 := deep_law_laid laid_prog (m := 3) (by omega) (by show 36 < Try.prog.types.size; rw [show Try.prog.types.size = Try.prog.types.size from rfl]; decide) (by kernel_rfl) wide_dart
theorem keyed_dart : Keyed Try.prog 36 := Keyed.of_law law_dart
theorem lits_dart (m : Nat) (d : D) (h : wfD d) : Try.prog.keyLits (m + 3) 36 (dC d) = some [.int .i64 d.1, .int .i64 d.2.1, .int .i64 d.2.2] := by
  obtain ⟨h1, h2, h3⟩ := h
  have c1 : Try.prog.cellsOf 36 = 3 := by kernel_rfl
  have c2 : Try.prog.cellsOf 34 = 2 := by kernel_rfl
  have c3 : Try.prog.cellsOf 3 = 1 := by kernel_rfl
  have i1 : ∀ (n : Nat) (x : Int), (Lit.int .i64 x).wf = true → Try.prog.keyLits (n + 1) 3 [.int .i64 x] = some [.int .i64 x] := fun n x hx => by simp [Program.keyLits, Try.underlying3, hx]
  have i2 : ∀ n, Try.prog.keyLits (n + 2) 34 [.int .i64 d.1, .int .i64 d.2.1] = some [.int .i64 d.1, .int .i64 d.2.1] := fun n => by
    unfold Program.keyLits
    simp only [Try.underlying34, c2]
    rw [if_pos ⟨rfl, by kernel_rfl⟩]
    simp [c3, i1, h1, h2]
  unfold Program.keyLits
  simp only [Try.underlying36, c1]
  rw [if_pos ⟨rfl, by kernel_rfl⟩]
  simp [c2, c3, i1, i2, h3, dC]
theorem key_dart (d : D) (h : wfD d) : keyOf Try.prog 36 (.agg (dC d).toArray) = some (kD d) := by
  have hk : Try.prog.keyType 36 = true := by kernel_rfl
  have c1 : Try.prog.cellsOf 36 = 3 := by kernel_rfl
  have hf : (Value.agg (dC d).toArray).formed Try.prog 36 = true := by simp [Value.formed, Try.underlying36, c1, dC]
  obtain ⟨m, hm⟩ : ∃ m, Try.prog.types.size + 1 = m + 3 := ⟨Try.prog.types.size - 2, by kernel_rfl⟩
  have hl := lits_dart m d h
  rw [← hm] at hl
  unfold keyOf
  simp only [Try.underlying36, hk, hf, Value.cells, Bool.and_self, if_true]
  rw [hl]
  rfl
theorem kD_inj {a b : D} (ha : wfD a) (hb : wfD b) (h : kD a = kD b) : a = b := by
  have := keyed_dart.inj (key_dart a ha) (by rw [h]; exact key_dart b hb)
  simp [dC] at this
  obtain ⟨a1, a2, a3⟩ := a
  obtain ⟨b1, b2, b3⟩ := b
  simp_all
theorem kD_key {a : D} (ha : wfD a) : WideAt.IsKeyLit (kD a) := keyed_dart.key (key_dart a ha)

/-- The datum is this set of darts. -/
structure SetD {H : Type} (Dt : DataW H) (S : List D) : Prop where
  tidy : Tidy Dt
  nd : S.Nodup
  wf : ∀ d ∈ S, wfD d
  size : Maps.size Dt = S.length
  has : ∀ d, wfD d → Maps.has Dt (kD d) = decide (d ∈ S)
def insD (d : D) (S : List D) : List D := if d ∈ S then S else d :: S
theorem SetD.empty {H : Type} : SetD (.map [] : DataW H) [] := ⟨tidy_empty, List.nodup_nil, by simp, rfl, fun d _ => by simp [Maps.has]⟩
theorem SetD.put {H : Type} {Dt : DataW H} {S : List D} (h : SetD Dt S) (d : D) (hd : wfD d) (u : DataW H) : SetD (Dt.put (kD d) u) (insD d S) := by
  have hm := h.has d hd
  refine ⟨h.tidy.put (kD_key hd) u, ?_, ?_, ?_, ?_⟩
  · unfold insD
    split
    · exact h.nd
    · rename_i hn; exact List.nodup_cons.2 ⟨hn, h.nd⟩
  · intro x hx
    unfold insD at hx
    split at hx
    · exact h.wf x hx
    · rcases List.mem_cons.1 hx with rfl | hx
      · exact hd
      · exact h.wf x hx
  · rw [size_put h.tidy, hm, h.size]
    unfold insD
    split <;> simp_all
  · intro x hx
    by_cases e : x = d
    · subst e
      rw [has_put_same h.tidy.isMap (kD_key hd)]
      unfold insD
      split <;> simp_all
    · rw [has_put_other (fun e' => e (kD_inj hx hd e')), h.has x hx]
      unfold insD
      split <;> simp_all
theorem SetD.del {H : Type} {Dt : DataW H} {S : List D} (h : SetD Dt S) (d : D) (hd : wfD d) (hm : d ∈ S) : SetD (Dt.del (kD d)) (S.erase d) := by
  have hh : Maps.has Dt (kD d) = true := by rw [h.has d hd]; exact decide_eq_true hm
  refine ⟨h.tidy.del _, h.nd.erase _, fun x hx => h.wf x (List.mem_of_mem_erase hx), ?_, ?_⟩
  · have h1 := size_del (k := kD d) h.tidy
    have h2 := List.length_erase_of_mem hm
    have h3 := List.length_pos_of_mem hm
    rw [hh] at h1
    simp only [if_true] at h1
    have := h.size
    omega
  · intro x hx
    by_cases e : x = d
    · subst e
      rw [has_del_same]
      exact (decide_eq_false (fun hc => by have := (h.nd.mem_erase_iff).1 hc; exact this.1 rfl)).symm
    · rw [has_del_other (fun e' => e (kD_inj hx hd e')), h.has x hx]
      rw [decide_eq_decide, h.nd.mem_erase_iff]
      simp [e]
end Go.Proofs.Ytdhglhcpgmfpoaa
