/- A diagram in memory: its cells; and as lists. -/
import Derived.Test.YtdhglhcpgmfpoaaRgCt
import Derived.Test.YtdhglhcpgmfpoaaBase
import Derived.Test.YtdhglhcpgmfpoaaDgM
import Derived.Test.YtdhglhcpgmfpoaaLabD
import Derived.Maps.OwnSet
namespace Go.Proofs.Ytdhglhcpgmfpoaa
open Go.RowKit Go.Maps
set_option linter.unusedSimpArgs false
set_option linter.unusedVariables false

/-- A slice of darts, and the darts. -/
abbrev Rg := Option Addr × Nat × Nat × List D
/-- A vertex: its name, ring, label, attribute; an edge: its name, label, attribute. -/
abbrev VC := (Int × Int) × Rg × ByteArray × Int
abbrev EC := (Int × Int) × ByteArray × Int
def vC (v : VC) : List Value := [.int .i64 v.1.1, .int .i64 v.1.2, .slice v.2.1.1 v.2.1.2.1 v.2.1.2.2.1, .string v.2.2.1, .int .i64 v.2.2.2]
def eC (e : EC) : List Value := [.int .i64 e.1.1, .int .i64 e.1.2, .string e.2.1, .int .i64 e.2.2]
theorem vC_len (v : VC) : (vC v).length = 5 := rfl
theorem eC_len (e : EC) : (eC e).length = 4 := rfl
theorem vC_one (v : VC) : ∀ u ∈ vC v, u.oneCell' = true := by simp [vC, Value.oneCell']
theorem eC_one (e : EC) : ∀ u ∈ eC e, u.oneCell' = true := by simp [eC, Value.oneCell']
def dC (d : D) : List Value := [.int .i64 d.1, .int .i64 d.2.1, .int .i64 d.2.2]
theorem dC_len (d : D) : (dC d).length = 3 := rfl
theorem dartsV_rows (l : List D) : dartsV l = rowsV dC l := by
  induction l with
  | nil => rfl
  | cons d l ih => rw [dartsV, ih]; rfl
/-- A ring lies where its slice says. -/
def RgOk (w : World) (r : Rg) : Prop := r.2.2.1 ≤ maxLen ∧ RdS w w.heap.size 3 r.1 r.2.1 r.2.2.1 (dartsV r.2.2.2)
/-- A diagram: its two rows. -/
structure DgIn (w : World) (A : Option Addr) (n c : Nat) (Vs : List VC) (B : Option Addr) (m k : Nat) (Es : List EC) : Prop where
  v : RdS w w.heap.size 5 A n c (rowsV vC Vs)
  e : RdS w w.heap.size 4 B m k (rowsV eC Es)
  r : ∀ x ∈ Vs, RgOk w x.2.1
theorem DgIn.below {w w' : World} {A B : Option Addr} {n c m k : Nat} {Vs : List VC} {Es : List EC} (h : DgIn w A n c Vs B m k Es) (hb : Below w.heap.size w w') : DgIn w' A n c Vs B m k Es :=
  ⟨h.v.bl hb, h.e.bl hb, fun x hx => ⟨(h.r x hx).1, (h.r x hx).2.bl hb⟩⟩
/-- Names that may be, and rise. -/
def riseS : List (Int × Int) → Bool
  | [] => true
  | x :: r => mayI x.1 x.2 && (match r with | [] => true | y :: _ => decide (ordI x.1 x.2 y.1 y.2 < 0)) && riseS r
def mayA (n : Int) : Bool := decide (-1099511627776 ≤ n ∧ n ≤ 1099511627776)
set_option maxRecDepth 100000 in
theorem mayattr_any (n : Int) : Pure 16 #[.int .i64 n] (.bool (mayA n)) := fun w => by
  unfold mayA
  by_cases h1 : -1099511627776 ≤ n
  · by_cases h2 : n ≤ 1099511627776
    · rw [decide_eq_true ⟨h1, h2⟩]
      go_enter Try.func16, Try.ntmps16
      go_wp2
      go_ret
      exact ⟨rfl, Below.refl _ _⟩
    · rw [decide_eq_false (fun h => h2 h.2)]
      go_enter Try.func16, Try.ntmps16
      go_wp2
      go_ret
      exact ⟨rfl, Below.refl _ _⟩
  · rw [decide_eq_false (fun h => h1 h.1)]
    go_enter Try.func16, Try.ntmps16
    go_wp2
    go_ret
    exact ⟨rfl, Below.refl _ _⟩
end Go.Proofs.Ytdhglhcpgmfpoaa
