/- Several texts in one. -/
import Derived.Test.YtmkflebkifbpfaaGreatZEA
import Derived.Test.YtmkflebkifbpfaaGreatZED
import Derived.Test.YtmkflebkifbpfaaGreatZEB
import Derived.Laws.MakeOwn
import Derived.Laws.OwnMore
import Derived.Maps.AppendAt
import Derived.SizedLaws
/- comp.Labels. -/
set_option linter.unusedSimpArgs false
set_option linter.unusedVariables false
set_option linter.unusedSectionVars false
namespace Go.Proofs.YtmkflebkifbpfaaGreat
open Go.RowKit
theorem info_intC : (Tryz.prog.info? 3).map (fun i => (i.zero, i.size, i.bytes)) = some (some (.int .i64 0), 1, 8) := by kernel_rfl
set_option maxRecDepth 100000 in
theorem make_intsC (W : World) (n : Nat) (hn : n ≤ 1000000) : (Instr.makeSlice 108 (.int .i64 (n : Int)) (.int .i64 (n : Int))).run Tryz.prog W = .ok (.slice (some ⟨W.heap.size, 0, none⟩) n n) (W.alloc (.cells (List.replicate n (.int .i64 0)).toArray 3)) := by
  obtain ⟨i0, hi, hz0, hz1, hz2⟩ := info_parts info_intC
  have := run_make (P := Tryz.prog) W 108 3 i0 _ Tryz.underlying108 hi hz0 .i64 .i64 n n (by omega) (by omega) (by rw [hz2]; omega) (by omega)
  rw [hz1, Int.toNat_natCast, Nat.mul_one] at this
  rw [this]
  congr 3
  have e := toList_madeCells_one (.int .i64 0) n
  exact Array.toList_inj.1 (by rw [show (Value.int .i64 0).cells = #[.int .i64 0] from rfl, e])
/-- What is known behind some darts: the labels; of each edge that was met, at which vertex it was first. -/
abbrev St := List Int × (I2 → Option Nat)
def stepD (i : Nat) (s : St) (x : D) : St := match s.2 (x.1, x.2.1) with
  | some j => (joinF s.1 (s.1.getD i 0) (s.1.getD j 0), s.2)
  | none => (s.1, fun y => if y = (x.1, x.2.1) then some i else s.2 y)
def labV : Nat → List VC → St → St
  | _, [], s => s
  | i, v :: r, s => labV (i + 1) r (v.2.1.2.2.2.foldl (stepD i) s)
def upN (n : Nat) : List Int := (List.range n).map fun k : Nat => (k : Int)
def labF (Vs : List VC) : List Int := (labV 0 Vs (upN Vs.length, fun _ => none)).1
theorem joinF_len (L : List Int) (a b : Int) : (joinF L a b).length = L.length := by simp [joinF]
theorem up_set (n j : Nat) (h : j < n) : (upN j ++ List.replicate (n - j) (0 : Int)).set j (j : Int) = upN (j + 1) ++ List.replicate (n - (j + 1)) 0 := by
  have hl : (upN j).length = j := by simp [upN]
  rw [List.set_append_right _ _ (by omega), hl, Nat.sub_self, show n - j = (n - (j + 1)) + 1 by omega, List.replicate_succ, List.set_cons_zero]
  simp [upN, List.range_succ]
theorem up_at (n j : Nat) (h : j < n) : (upN j ++ List.replicate (n - j) (0 : Int))[j]? = some 0 := by
  have hl : (upN j).length = j := by simp [upN]
  rw [List.getElem?_append_right (by omega), hl, Nat.sub_self, show n - j = (n - (j + 1)) + 1 by omega, List.replicate_succ]
  rfl
theorem rows_rep (n : Nat) : rowsV n1 (List.replicate n 0) = List.replicate n (.int .i64 0) := by
  induction n with
  | zero => rfl
  | succ k ih => rw [List.replicate_succ, List.replicate_succ, ← ih]; rfl
/-- The map of ends, as it lies in memory. -/
def EndsM (w : World) (b n : Nat) (e : I2 → Option Nat) : Prop := MapF w keyID b n (fun y => (e y).map fun j : Nat => Value.int .i64 (j : Int))
theorem ends_put {w : World} {b n : Nat} {e : I2 → Option Nat} {x : I2} {i : Nat} (h : MapF w keyID b n (fun y => if y = x then some (.int .i64 (i : Int)) else (e y).map fun j : Nat => Value.int .i64 (j : Int))) : EndsM w b n (fun y => if y = x then some i else e y) := by
  have : (fun y => if y = x then some (Value.int .i64 (i : Int)) else (e y).map fun j : Nat => Value.int .i64 (j : Int)) = (fun y => (if y = x then some i else e y).map fun j : Nat => Value.int .i64 (j : Int)) := by
    funext y
    split <;> rfl
  unfold EndsM
  rw [← this]
  exact h
section
variable {w w' : World} {b n : Nat} {e : I2 → Option Nat}
theorem EndsM.al (h : EndsM w b n e) (o : Obj) : EndsM (w.alloc o) b n e := MapF.al h o
theorem EndsM.bl (h : EndsM w b n e) (hb : Below w.heap.size w w') : EndsM w' b n e := MapF.bl h hb
theorem EndsM.dr (h : EndsM w b n e) : EndsM w.drew b n e := MapF.dr h
theorem EndsM.mono {n' : Nat} (h : EndsM w b n e) (hn : n ≤ n') : EndsM w b n' e := MapF.mono h hn
theorem EndsM.kept {S : Nat → Prop} (h : EndsM w b n e) (hk : Kept S w w') (hb : ¬ S b) : EndsM w' b n e := MapF.kept h hk hb
theorem EndsM.lt (h : EndsM w b n e) : b < w.heap.size := MapF.lt h
end
/-- What the operations of the region that joins come to. -/
def gamJ (g n i j : Nat) (a b : Int) : Nat → Value → World → Prop
  | 0, v, _ => v = .slice (some ⟨g, 0, none⟩) n n
  | 1, v, _ => v = .slice (some ⟨g, 0, none⟩) n n
  | 2, v, _ => v = .int .i64 (i : Int)
  | 3, v, _ => v = .pointer (some ⟨g, i, none⟩)
  | 4, v, _ => v = .int .i64 a
  | 5, v, _ => v = .slice (some ⟨g, 0, none⟩) n n
  | 6, v, _ => v = .int .i64 (j : Int)
  | 7, v, _ => v = .pointer (some ⟨g, j, none⟩)
  | 8, v, _ => v = .int .i64 b
  | _, _, _ => True
theorem gamJ_up {g n i j : Nat} {a b : Int} : ∀ (q : Nat) (v : Value) (W W' : World), gamJ g n i j a b q v W → Ext W W' → gamJ g n i j a b q v W'
  | 0, _, _, _, h, _ => h
  | 1, _, _, _, h, _ => h
  | 2, _, _, _, h, _ => h
  | 3, _, _, _, h, _ => h
  | 4, _, _, _, h, _ => h
  | 5, _, _, _, h, _ => h
  | 6, _, _, _, h, _ => h
  | 7, _, _, _, h, _ => h
  | 8, _, _, _, h, _ => h
  | _ + 9, _, _, _, _, _ => trivial
theorem n1_at {W : World} {lo g n c : Nat} {L : List Int} (h : W.ownsRow lo 3 1 (.slice (some ⟨g, 0, none⟩) n c) n (rowsV n1 L)) (hl : L.length = n) {i : Nat} (hi : i < n) : W.cell? ⟨g, i, none⟩ = some (.int .i64 (L.getD i 0)) := by
  obtain ⟨x, hx⟩ : ∃ x, L[i]? = some x := ⟨_, List.getElem?_eq_getElem (by omega)⟩
  have h1 := (own_rds h).elem n1_len hx 0 _ rfl
  simp only [Addr.add_lit, Nat.add_zero, Nat.zero_add, Nat.mul_one] at h1
  rw [List.getD_eq_getElem?_getD, hx]
  exact h1
/-- Of a map of names. -/
theorem wl_endsNo {ops : Array Oper} {rest : List Oper} {o : Oper} {a : Act} {Q : Exit → Act → World → Prop} {w : World} (hg : o.guard = none) (m y : Operand) (ho : o.op = .lookup 39 m y true) {b n : Nat} {e : I2 → Option Nat} (hm : a.eval m = .map (some b)) (h : EndsM w b n e)
    (x : I2) (hx : wfI x) (hy : a.eval y = .agg #[.int .i64 x.1, .int .i64 x.2]) (he : e x = none) (hK : wpList Tryz.prog ops Q rest (a.put o.dst (.tuple #[.int .i64 0, .bool false])) w) : wpList Tryz.prog ops Q (o :: rest) a w := by
  refine wl_mapLook hg m y ho hm h Tryz.underlying39 (zero_intK w) hx hy ?_
  rw [he]
  exact hK
theorem wl_endsYes {ops : Array Oper} {rest : List Oper} {o : Oper} {a : Act} {Q : Exit → Act → World → Prop} {w : World} (hg : o.guard = none) (m y : Operand) (ho : o.op = .lookup 39 m y true) {b n : Nat} {e : I2 → Option Nat} (hm : a.eval m = .map (some b)) (h : EndsM w b n e)
    (x : I2) (hx : wfI x) (hy : a.eval y = .agg #[.int .i64 x.1, .int .i64 x.2]) {j : Nat} (he : e x = some j) (hK : wpList Tryz.prog ops Q rest (a.put o.dst (.tuple #[.int .i64 (j : Int), .bool true])) w) : wpList Tryz.prog ops Q (o :: rest) a w := by
  refine wl_mapLook hg m y ho hm h Tryz.underlying39 (zero_intK w) hx hy ?_
  rw [he]
  exact hK
theorem wl_endsPut {ops : Array Oper} {rest : List Oper} {o : Oper} {a : Act} {Q : Exit → Act → World → Prop} {w : World} (hg : o.guard = none) (m y v : Operand) (ho : o.op = .mapUpdate 39 m y v) {b n : Nat} {e : I2 → Option Nat} (hm : a.eval m = .map (some b)) (h : EndsM w b n e) (hn : n < maxLen)
    (x : I2) (hx : wfI x) (hy : a.eval y = .agg #[.int .i64 x.1, .int .i64 x.2]) {i : Nat} (hv : a.eval v = .int .i64 (i : Int)) (hK : ∀ w', EndsM w' b (n + 1) (fun y => if y = x then some i else e y) → w.grownBy w' (some b) → wpList Tryz.prog ops Q rest (a.put o.dst undef) w') : wpList Tryz.prog ops Q (o :: rest) a w :=
  wl_mapPut hg m y v ho hm h Tryz.underlying39 hn hx hy hv fun w' h1 h2 => hK w' (ends_put h1) h2
/-- What a round asks of the state. -/
structure StOk (n : Nat) (s : St) : Prop where
  len : s.1.length = n
  lt : ∀ y j, s.2 y = some j → j < n
theorem StOk.step {n i : Nat} {s : St} (h : StOk n s) (hi : i < n) (x : D) : StOk n (stepD i s x) := by
  unfold stepD
  split
  · exact ⟨by rw [joinF_len]; exact h.len, h.lt⟩
  · refine ⟨h.len, fun y j hy => ?_⟩
    simp only at hy
    split at hy
    · obtain rfl := Option.some.inj hy
      exact hi
    · exact h.lt y j hy
set_option maxRecDepth 100000 in
set_option maxHeartbeats 4000000 in
theorem labels_any (A : Option Addr) (n c : Nat) (Vs : List VC) (B : Option Addr) (m k : Nat) (Es : List EC) (w : World) (h : DgIn w A n c Vs B m k Es) (hn : n ≤ 1000000) (hr : ∀ x ∈ Vs, x.2.1.2.1 ≤ 1000000) (hv : ∀ v ∈ Vs, ∀ d ∈ v.2.1.2.2.2, wfD d) :
    Calls Tryz.prog 108 #[.agg #[.slice A n c, .slice B m k]] w fun e w' => ∃ g, e = .returned (.slice (some ⟨g, 0, none⟩) n n) ∧ w'.ownsRow w.heap.size 3 1 (.slice (some ⟨g, 0, none⟩) n n) n (rowsV n1 (labF Vs)) ∧ Below w.heap.size w w' := by
  have HV := Lib.hid h.v
  have HRg := Lib.hid h.r
  have Hlv := Lib.hid (h.v.rlen vC_len (by decide))
  have Hhv := Lib.hid hv
  have Hhr := Lib.hid hr
  have HJ := Lib.hid (fun g L a b lo W h hl => join_any g n n L a b lo W h hn hl)
  obtain ⟨lab, glab⟩ : ∃ z, labF Vs = z := ⟨_, rfl⟩
  have HL0 := Lib.hid glab
  rw [glab]
  clear h hv hr glab
  have hmk := fun W => make_intsC W n hn
  have hmm := @run_makeMap Tryz.prog
  go_enter Tryz.func108, Tryz.ntmps108
  go_upto_region 1 with fail
  have hx0 : Whole (w.alloc (.cells #[.slice A n c, .slice B m k] 25)) (w.heap.size) 25 [.slice A n c, .slice B m k] := (Whole.new_ w 25 [.slice A n c, .slice B m k])
  have hbl : Below w.heap.size w (w.alloc (.cells #[.slice A n c, .slice B m k] 25)) := (below1 w (.cells #[.slice A n c, .slice B m k] 25))
  have hsz : w.heap.size + 1 ≤ ((w.alloc (.cells #[.slice A n c, .slice B m k] 25))).heap.size := by simp
  obtain ⟨W0, gW0⟩ : ∃ z, (w.alloc (.cells #[.slice A n c, .slice B m k] 25)) = z := ⟨_, rfl⟩
  rw [gW0] at hx0 hbl hsz
  obtain ⟨b0, gb0⟩ : ∃ z, w.heap.size = z := ⟨_, rfl⟩
  rw [gb0] at hx0
  have HX0 := Lib.hid hx0
  have HB0 := Lib.hid hbl
  have HS0 := Lib.hid hsz
  have Gb0 := Lib.hid gb0
  have Lb0 : RowKit.Hid (w.heap.size ≤ b0) := Lib.hid (by omega)
  rw [gW0, gb0]
  clear gW0 hbl hsz hx0 gb0
  have HX := HX0
  have c0 := HX.out.cell (i := 0) rfl
  go_wp2
  clear hmk c0
  have HO0 : RowKit.Hid ((W0.alloc (.cells (Array.replicate n (.int .i64 0)) 3)).ownsRow w.heap.size 3 1 (.slice (some ⟨W0.heap.size, 0, none⟩) n n) n (rowsV n1 (upN 0 ++ List.replicate (n - 0) 0))) := Lib.hid (own_new rfl HB0.out.size (by unfold maxLen; omega) (by simp) (by rw [show upN 0 ++ List.replicate (n - 0) (0 : Int) = List.replicate n 0 from by simp [upN], rows_rep]; simp))
  have HX1 := Lib.hid (HX.out.alloc (.cells (Array.replicate n (.int .i64 0)) 3))
  have HB1 := Lib.hid (bel_al HB0.out (.cells (Array.replicate n (.int .i64 0)) 3))
  have Hne : RowKit.Hid (b0 ≠ W0.heap.size) := Lib.hid (by have := HX.out.lt; omega)
  have Hlo : RowKit.Hid (w.heap.size ≤ W0.heap.size) := Lib.hid HB0.out.size
  obtain ⟨W1, gW1⟩ : ∃ z, W0.alloc (.cells (Array.replicate n (.int .i64 0)) 3) = z := ⟨_, rfl⟩
  obtain ⟨gl, ggl⟩ : ∃ z, W0.heap.size = z := ⟨_, rfl⟩
  rw [gW1, ggl] at HO0
  rw [gW1] at HX1 HB1 ⊢
  rw [ggl] at Hne Hlo ⊢
  clear gW1 ggl HX HX0 HB0 HS0
  go_loopw [18] (fun si wr => ∃ j : Nat, j ≤ n ∧ si = .int .i64 j ∧ RowKit.Hid (Below w.heap.size w wr) ∧ RowKit.Hid (Whole wr b0 25 [.slice A n c, .slice B m k]) ∧ RowKit.Hid (wr.ownsRow w.heap.size 3 1 (.slice (some ⟨gl, 0, none⟩) n n) n (rowsV n1 (upN j ++ List.replicate (n - j) 0)))) (fun si _ => n - (intOf si).toNat)
  case atStart => exact ⟨0, by omega, rfl, HB1, HX1, HO0⟩
  case round =>
    clear HB1 HX1 HO0
    obtain ⟨j, hj, rfl, HB, HX, HO⟩ := hrel
    obtain ⟨wo, gwo⟩ : ∃ z, wr = z := ⟨_, rfl⟩
    rw [gwo] at HB HX HO ⊢
    clear gwo
    by_cases hjn : j < n
    · obtain ⟨g2, junk, e, hlo, hw, hc, hf, ho⟩ := own_poke (i := 0) (y := (j : Int)) (u := .int .i64 (j : Int)) n1_len HO.out (up_at n j hjn) hjn (by omega) rfl
      obtain rfl : gl = g2 := by
        injection e with e
        injection e
      rw [up_set n j hjn, show (j * 1 + 0 : Nat) = j by omega] at ho
      have hc0 : wo.cell? ⟨gl, j, none⟩ = some (.int .i64 0) := by have := hc.trans (show (n1 0)[0]? = some (.int .i64 0) from rfl); simpa using this
      have hf0 : wo.frozen? ⟨gl, j, none⟩ = false := by simpa using hf
      have HO2 := Lib.hid ho
      have HX2 := Lib.hid (HX.out.set_far' (i := j) Hne.out (.int .i64 (j : Int)))
      have HB2 := Lib.hid (HB.out.setCell (p := ⟨gl, j, none⟩) Hlo.out (.int .i64 (j : Int)))
      clear e hlo hw hc hf ho HO HX HB
      go_wp2
      go_roundw
      case rel => exact ⟨j + 1, by omega, by go_num, HB2, HX2, HO2⟩
      case measure => simp [intOf]; omega
    · obtain rfl : n = j := by omega
      have hO := HO.out
      rw [Nat.sub_self, List.replicate_zero, List.append_nil] at hO
      have HOa := Lib.hid (own_up hO (below1 wo (.map #[] 0)))
      have HMa : RowKit.Hid (EndsM (wo.alloc (.map #[] 0)) wo.heap.size (0 * 1000000) (fun _ => none)) := Lib.hid (show MapF _ keyID _ _ _ from (MapF.made).mono (by omega))
      have HBa := Lib.hid (bel_al HB.out (.map #[] 0))
      have Hbm : RowKit.Hid (gl ≠ wo.heap.size) := Lib.hid (by have h1 := (own_lt hO rfl).2; have h2 : gl < wo.heap.size := h1; omega)
      have Hbl : RowKit.Hid (w.heap.size ≤ wo.heap.size) := Lib.hid HB.out.size
      have c0 := (HX.out.alloc (.map #[] 0)).cell (i := 0) rfl
      have HS0 : RowKit.Hid (StOk n (upN n, fun _ => none)) := Lib.hid ⟨by simp [upN], fun y j h => (by cases h)⟩
      have HF0 : RowKit.Hid (lab = (labV 0 (Vs.drop 0) (upN n, fun _ => none)).1) := Lib.hid (by rw [← HL0.out, List.drop_zero, labF, Hlv.out])
      clear hO HO
      go_wp2
      clear c0 hmm
      obtain ⟨W2, gW2⟩ : ∃ z, wo.alloc (.map #[] 0) = z := ⟨_, rfl⟩
      obtain ⟨bm, gbm⟩ : ∃ z, wo.heap.size = z := ⟨_, rfl⟩
      rw [gW2] at HOa HMa HBa ⊢
      rw [gbm] at HMa Hbm Hbl ⊢
      clear gW2 gbm HB HX
      go_loopw [30] (fun si wr => ∃ (i : Nat) (s : St), i ≤ n ∧ si = .int .i64 i ∧ RowKit.Hid (Below w.heap.size w wr) ∧ RowKit.Hid (wr.ownsRow w.heap.size 3 1 (.slice (some ⟨gl, 0, none⟩) n n) n (rowsV n1 s.1)) ∧ RowKit.Hid (EndsM wr bm (i * 1000000) s.2) ∧ RowKit.Hid (StOk n s) ∧ RowKit.Hid (lab = (labV i (Vs.drop i) s).1)) (fun si _ => n - (intOf si).toNat)
      case atStart => exact ⟨0, _, by omega, rfl, HBa, HOa, HMa, HS0, HF0⟩
      case round =>
        clear HBa HOa HMa HS0 HF0
        obtain ⟨i, s, hi, rfl, HB, HO, HM, HS, HF⟩ := hrel
        obtain ⟨wo, gwo⟩ : ∃ z, wr = z := ⟨_, rfl⟩
        rw [gwo] at HB HO HM ⊢
        clear gwo
        by_cases hin : i < n
        · obtain ⟨v, hx⟩ : ∃ v, Vs[i]? = some v := ⟨_, List.getElem?_eq_getElem (by have := Hlv.out; omega)⟩
          have hdr : Vs.drop i = v :: Vs.drop (i + 1) := by
            rw [List.drop_eq_getElem_cons (List.getElem?_eq_some_iff.1 hx).1, (List.getElem?_eq_some_iff.1 hx).2]
          have hvm := List.mem_of_getElem? hx
          have hrg := HRg.out v hvm
          have hrn := Hhr.out v hvm
          have hwf := Hhv.out v hvm
          have hF := HF.out
          rw [hdr, labV] at hF
          obtain ⟨bb, off, rfl, hbB, hpl⟩ := HV.out.place vC_len (by decide) (by omega)
          have hbw := HB.out
          have q0 := hpl i _ hx 0 _ rfl
          have q1 := hpl i _ hx 1 _ rfl
          have q2 := hpl i _ hx 2 _ rfl
          have q3 := hpl i _ hx 3 _ rfl
          have q4 := hpl i _ hx 4 _ rfl
          simp only [Addr.add_lit, Nat.add_zero] at q0 q1 q2 q3 q4
          have l0 := (hbw.cell (p := ⟨bb, off + i * 5, none⟩) hbB).trans q0
          have l1 := (hbw.cell (p := ⟨bb, off + i * 5 + 1, none⟩) hbB).trans q1
          have l2 := (hbw.cell (p := ⟨bb, off + i * 5 + 2, none⟩) hbB).trans q2
          have l3 := (hbw.cell (p := ⟨bb, off + i * 5 + 3, none⟩) hbB).trans q3
          have l4 := (hbw.cell (p := ⟨bb, off + i * 5 + 4, none⟩) hbB).trans q4
          clear hbw q0 q1 q2 q3 q4
          obtain ⟨⟨i1, i2⟩, ⟨rA, rn, rc, rL⟩, lb, at_⟩ := v
          replace hrn : rn ≤ 1000000 := hrn
          have HR : RowKit.Hid (RdS w w.heap.size 3 rA rn rc (dartsV rL)) := Lib.hid hrg.2
          have Hlr := Lib.hid HR.out.dlen
          have Hwf : RowKit.Hid (∀ d ∈ rL, wfD d) := Lib.hid hwf
          have HF1 : RowKit.Hid (lab = (labV (i + 1) (Vs.drop (i + 1)) ((rL.drop 0).foldl (stepD i) s)).1) := Lib.hid hF
          have HBb := Lib.hid (bel_al HB.out (.cells #[.int .i64 i1, .int .i64 i2, .slice rA rn rc, .string lb, .int .i64 at_] 47))
          have HOb := Lib.hid (own_up HO.out (below1 wo (.cells #[.int .i64 i1, .int .i64 i2, .slice rA rn rc, .string lb, .int .i64 at_] 47)))
          have HMb := Lib.hid ((HM.out.mono (show i * 1000000 ≤ i * 1000000 + 0 by omega)).al (.cells #[.int .i64 i1, .int .i64 i2, .slice rA rn rc, .string lb, .int .i64 at_] 47))
          clear hx hdr hvm hrg hwf hF hpl hbB HF HO HM
          go_wp2
          clear l0 l1 l2 l3 l4 HB
          go_loopw [38] (fun sj wr => ∃ (j : Nat) (s : St), j ≤ rn ∧ sj = .int .i64 j ∧ RowKit.Hid (Below w.heap.size w wr) ∧ RowKit.Hid (wr.ownsRow w.heap.size 3 1 (.slice (some ⟨gl, 0, none⟩) n n) n (rowsV n1 s.1)) ∧ RowKit.Hid (EndsM wr bm (i * 1000000 + j) s.2) ∧ RowKit.Hid (StOk n s) ∧ RowKit.Hid (lab = (labV (i + 1) (Vs.drop (i + 1)) ((rL.drop j).foldl (stepD i) s)).1)) (fun sj _ => rn - (intOf sj).toNat)
          case atStart => exact ⟨0, s, by omega, rfl, HBb, HOb, HMb, HS, HF1⟩
          case round =>
            clear HBb HOb HMb HS HF1
            obtain ⟨j, s, hj, rfl, HB, HO, HM, HS, HF⟩ := hrel
            obtain ⟨wi, gwi⟩ : ∃ z, wr = z := ⟨_, rfl⟩
            rw [gwi] at HB HO HM ⊢
            clear gwi
            by_cases hjr : j < rn
            · obtain ⟨b, of2, rfl, hb, hc⟩ := (HR.out.up HB.out HB.out.size).darts (by omega)
              have hjl : j < rL.length := by have := Hlr.out; omega
              obtain ⟨d1, d2, d3⟩ := hc j hjl
              obtain ⟨x, gx⟩ : ∃ v, rL.getD j (0, 0, 0) = v := ⟨_, rfl⟩
              have gx2 : rL[j] = x := by rw [← gx, List.getD_eq_getElem?_getD, List.getElem?_eq_getElem hjl]; rfl
              have hxm : x ∈ rL := by rw [← gx2]; exact List.getElem_mem hjl
              have hdr : rL.drop j = x :: rL.drop (j + 1) := by rw [List.drop_eq_getElem_cons hjl, gx2]
              have hwx := Hwf.out x hxm
              rw [gx] at d1 d2 d3
              have hF := HF.out
              rw [hdr, List.foldl_cons] at hF
              have HF1 := Lib.hid hF
              have HS1 := Lib.hid (HS.out.step hin x)
              obtain ⟨x1, x2, x3⟩ := x
              have Hx : RowKit.Hid (wfI (x1, x2)) := Lib.hid ⟨hwx.1, hwx.2.1⟩
              have HBc := Lib.hid (bel_al HB.out (.cells #[.int .i64 x1, .int .i64 x2, .int .i64 x3] 49))
              have HOc := Lib.hid (own_up HO.out (below1 wi (.cells #[.int .i64 x1, .int .i64 x2, .int .i64 x3] 49)))
              have HMc := Lib.hid (HM.out.al (.cells #[.int .i64 x1, .int .i64 x2, .int .i64 x3] 49))
              obtain ⟨t, gt⟩ : ∃ t, s.2 (x1, x2) = t := ⟨_, rfl⟩
              have Gt := Lib.hid gt
              clear hc hb gx gx2 hxm hdr hjl hF hwx HF gt HB HO HM
              cases t with
              | none =>
                have HE : RowKit.Hid (stepD i s (x1, x2, x3) = (s.1, fun y => if y = (x1, x2) then some i else s.2 y)) := Lib.hid (by unfold stepD; simp [Gt.out])
                have hs1 := HS1.out
                rw [HE.out] at hs1
                have hf1 := HF1.out
                rw [HE.out] at hf1
                have HS2 := Lib.hid hs1
                have HF2 := Lib.hid hf1
                clear hs1 hf1 HE
                go_upto_region 14 with fail
                refine wp_region_lit ?_
                refine wl_read (v := ?_) (some 43) rfl (by rfl) ?_ ?_
                rotate_left
                · go_simp; (try with_reducible rfl)
                simp only [Act.put, stA_, st0_, st1_]
                refine wl_read (v := ?_) (some 44) rfl (by rfl) ?_ ?_
                rotate_left
                · go_simp; (try with_reducible rfl)
                simp only [Act.put, stA_, st0_, st1_]
                refine wl_read (v := ?_) (some 45) rfl (by rfl) ?_ ?_
                rotate_left
                · go_simp; (try with_reducible rfl)
                simp only [Act.put, stA_, st0_, st1_]
                refine wl_endsNo rfl _ _ rfl rfl (by exact HMc.out) (x1, x2) Hx.out rfl Gt.out ?_
                simp only [Act.put, stA_, st0_, st1_]
                go_upto_region 17 with fail
                refine wp_region_lit ?_
                refine wl_read (v := ?_) (some 60) rfl (by rfl) ?_ ?_
                rotate_left
                · go_simp; (try with_reducible rfl)
                simp only [Act.put, stA_, st0_, st1_]
                refine wl_read (v := ?_) (some 61) rfl (by rfl) ?_ ?_
                rotate_left
                · go_simp; (try with_reducible rfl)
                simp only [Act.put, stA_, st0_, st1_]
                refine wl_read (v := ?_) (some 62) rfl (by rfl) ?_ ?_
                rotate_left
                · go_simp; (try with_reducible rfl)
                simp only [Act.put, stA_, st0_, st1_]
                refine wl_read (v := ?_) (some 63) rfl (by rfl) ?_ ?_
                rotate_left
                · go_simp; (try with_reducible rfl)
                simp only [Act.put, stA_, st0_, st1_]
                have hcnt : i * 1000000 + j < maxLen := by unfold maxLen; omega
                refine wl_endsPut rfl _ _ _ rfl rfl (by exact HMc.out) hcnt (x1, x2) Hx.out rfl rfl ?_
                intro w3 hm3 hg3
                have hne : some bm ≠ (Value.slice (some (⟨gl, 0, none⟩ : Addr)) n n).ownBlock := fun e => Hbm.out (Option.some.inj e).symm
                have HM3 : RowKit.Hid (EndsM w3 bm (i * 1000000 + (j + 1)) (fun y => if y = (x1, x2) then some i else s.2 y)) := Lib.hid (hm3.mono (by omega))
                have HO3 := Lib.hid (HOc.out.kept (row := some bm) hg3 (by first | exact hne | exact hne.symm | exact .inr hne | exact .inr hne.symm))
                have HB3 := Lib.hid (bel_grown HBc.out hg3 Hbl.out)
                clear hm3 hg3 hne hcnt
                go_wp2
                go_roundw
                case rel => exact ⟨j + 1, (s.1, fun y => if y = (x1, x2) then some i else s.2 y), by omega, by go_num, HB3, HO3, HM3, HS2, HF2⟩
                case measure => simp [intOf]; omega
              | some j2 =>
                have HE : RowKit.Hid (stepD i s (x1, x2, x3) = (joinF s.1 (s.1.getD i 0) (s.1.getD j2 0), s.2)) := Lib.hid (by unfold stepD; simp [Gt.out])
                have hj2 : j2 < n := HS.out.lt _ _ Gt.out
                obtain ⟨a, ga⟩ : ∃ z, s.1.getD i 0 = z := ⟨_, rfl⟩
                obtain ⟨b, gb⟩ : ∃ z, s.1.getD j2 0 = z := ⟨_, rfl⟩
                have hca := n1_at HOc.out HS.out.len hin
                have hcb := n1_at HOc.out HS.out.len hj2
                rw [ga] at HE hca
                rw [gb] at HE hcb
                clear ga gb
                have hs1 := HS1.out
                rw [HE.out] at hs1
                have hf1 := HF1.out
                rw [HE.out] at hf1
                have HS2 := Lib.hid hs1
                have HF2 := Lib.hid hf1
                clear hs1 hf1 HE
                go_upto_region 14 with fail
                refine wp_region_lit ?_
                refine wl_read (v := ?_) (some 43) rfl (by rfl) ?_ ?_
                rotate_left
                · go_simp; (try with_reducible rfl)
                simp only [Act.put, stA_, st0_, st1_]
                refine wl_read (v := ?_) (some 44) rfl (by rfl) ?_ ?_
                rotate_left
                · go_simp; (try with_reducible rfl)
                simp only [Act.put, stA_, st0_, st1_]
                refine wl_read (v := ?_) (some 45) rfl (by rfl) ?_ ?_
                rotate_left
                · go_simp; (try with_reducible rfl)
                simp only [Act.put, stA_, st0_, st1_]
                refine wl_endsYes rfl _ _ rfl rfl (by exact HMc.out) (x1, x2) Hx.out rfl Gt.out ?_
                simp only [Act.put, stA_, st0_, st1_]
                go_upto_region 16 with fail
                clear d1 d2 d3
                obtain ⟨W3, gW3⟩ : ∃ z, wi.alloc (.cells #[.int .i64 x1, .int .i64 x2, .int .i64 x3] 49) = z := ⟨_, rfl⟩
                rw [gW3] at HBc HOc HMc hca hcb ⊢
                clear gW3
                refine wp_region_in4 9 2 (fun z => z = gl) (gamJ gl n i j2 a b) (Ext W3.drew) (by kernel_rfl) (by kernel_rfl) (by kernel_rfl) (by kernel_rfl) (by kernel_rfl) (fun q v w1 w2 h hx => gamJ_up q v w1 w2 h hx) (fun _ _ h k => h.trans k) (Ext.refl _) ?_ ?_
                · intro q hq9
                  have hcase : q = 0 ∨ q = 1 ∨ q = 2 ∨ q = 3 ∨ q = 4 ∨ q = 5 ∨ q = 6 ∨ q = 7 ∨ q = 8 := by omega
                  rcases hcase with rfl | rfl | rfl | rfl | rfl | rfl | rfl | rfl | rfl
                  · intro o ho x y hg hdep
                    simp only [List.getElem?_toArray, List.getElem?_cons_succ, List.getElem?_cons_zero, Option.some.injEq] at ho
                    subst ho
                    simp only [dsts, List.map_cons, List.map_nil, putAll, Act.put, stA_, st0_, st1_]
                    refine .inl ⟨by rfl, ?_⟩
                    go_simp
                    exact ⟨Ext.refl _, rfl⟩
                  · intro o ho x y hg hdep
                    simp only [List.getElem?_toArray, List.getElem?_cons_succ, List.getElem?_cons_zero, Option.some.injEq] at ho
                    subst ho
                    simp only [dsts, List.map_cons, List.map_nil, putAll, Act.put, stA_, st0_, st1_]
                    refine .inl ⟨by rfl, ?_⟩
                    go_simp
                    exact ⟨Ext.refl _, rfl⟩
                  · intro o ho x y hg hdep
                    simp only [List.getElem?_toArray, List.getElem?_cons_succ, List.getElem?_cons_zero, Option.some.injEq] at ho
                    subst ho
                    simp only [dsts, List.map_cons, List.map_nil, putAll, Act.put, stA_, st0_, st1_]
                    refine .inl ⟨by rfl, ?_⟩
                    go_simp
                    exact ⟨Ext.refl _, rfl⟩
                  · intro o ho x y hg hdep
                    simp only [List.getElem?_toArray, List.getElem?_cons_succ, List.getElem?_cons_zero, Option.some.injEq] at ho
                    subst ho
                    have d1 : x 1 = .slice (some ⟨gl, 0, none⟩) n n := hdep 1 (by decide)
                    have d2 : x 2 = .int .i64 (i : Int) := hdep 2 (by decide)
                    simp only [dsts, List.map_cons, List.map_nil, putAll, Act.put, stA_, st0_, st1_]
                    simp only [d1, d2]
                    refine .inl ⟨by rfl, ?_⟩
                    go_simp
                    exact ⟨Ext.refl _, rfl⟩
                  · intro o ho x y hg hdep
                    simp only [List.getElem?_toArray, List.getElem?_cons_succ, List.getElem?_cons_zero, Option.some.injEq] at ho
                    subst ho
                    have hc := hg.cell (p := ⟨gl, i, none⟩) hca
                    have d3 : x 3 = .pointer (some ⟨gl, i, none⟩) := hdep 3 (by decide)
                    simp only [dsts, List.map_cons, List.map_nil, putAll, Act.put, stA_, st0_, st1_]
                    simp only [d3]
                    refine .inl ⟨by rfl, ?_⟩
                    go_simp
                    exact ⟨Ext.refl _, rfl⟩
                  · intro o ho x y hg hdep
                    simp only [List.getElem?_toArray, List.getElem?_cons_succ, List.getElem?_cons_zero, Option.some.injEq] at ho
                    subst ho
                    simp only [dsts, List.map_cons, List.map_nil, putAll, Act.put, stA_, st0_, st1_]
                    refine .inl ⟨by rfl, ?_⟩
                    go_simp
                    exact ⟨Ext.refl _, rfl⟩
                  · intro o ho x y hg hdep
                    simp only [List.getElem?_toArray, List.getElem?_cons_succ, List.getElem?_cons_zero, Option.some.injEq] at ho
                    subst ho
                    simp only [dsts, List.map_cons, List.map_nil, putAll, Act.put, stA_, st0_, st1_]
                    refine .inl ⟨by rfl, ?_⟩
                    go_simp
                    exact ⟨Ext.refl _, rfl⟩
                  · intro o ho x y hg hdep
                    simp only [List.getElem?_toArray, List.getElem?_cons_succ, List.getElem?_cons_zero, Option.some.injEq] at ho
                    subst ho
                    have d5 : x 5 = .slice (some ⟨gl, 0, none⟩) n n := hdep 5 (by decide)
                    have d6 : x 6 = .int .i64 (j2 : Int) := hdep 6 (by decide)
                    simp only [dsts, List.map_cons, List.map_nil, putAll, Act.put, stA_, st0_, st1_]
                    simp only [d5, d6]
                    refine .inl ⟨by rfl, ?_⟩
                    go_simp
                    exact ⟨Ext.refl _, rfl⟩
                  · intro o ho x y hg hdep
                    simp only [List.getElem?_toArray, List.getElem?_cons_succ, List.getElem?_cons_zero, Option.some.injEq] at ho
                    subst ho
                    have hc := hg.cell (p := ⟨gl, j2, none⟩) hcb
                    have d7 : x 7 = .pointer (some ⟨gl, j2, none⟩) := hdep 7 (by decide)
                    simp only [dsts, List.map_cons, List.map_nil, putAll, Act.put, stA_, st0_, st1_]
                    simp only [d7]
                    refine .inl ⟨by rfl, ?_⟩
                    go_simp
                    exact ⟨Ext.refl _, rfl⟩
                intro x y hg hall
                have d0 : x 0 = .slice (some ⟨gl, 0, none⟩) n n := hall 0 (by decide)
                have d4 : x 4 = .int .i64 a := hall 4 (by decide)
                have d8 : x 8 = .int .i64 b := hall 8 (by decide)
                simp only [dsts, List.map_cons, List.map_nil, putAll, Act.put, stA_, st0_, st1_]
                simp only [d0, d4, d8]
                have HOy := Lib.hid (own_up (own_up HOc.out ((Below.refl _ _).drew)) hg)
                have HMy := Lib.hid (HMc.out.dr.bl hg)
                have HBy := Lib.hid (bel_bl (bel_dr HBc.out) hg)
                clear hg hall d0 d4 d8 hca hcb HOc HMc HBc
                apply wpR_call 9 (some 59)
                · rfl
                · rfl
                · kernel_rfl
                · rfl
                · intro w'; go_simp; first | done | exact ⟨rfl, rfl⟩ | with_reducible rfl
                intro w' hw'
                refine (HJ.out gl s.1 a b w.heap.size w' (own_up HOy.out hw') HS.out.len).mono ?_
                rintro e w9 ⟨rfl, ho9, hk9⟩
                refine ⟨_, rfl, hk9, ?_⟩
                have h := bel_bl HBy.out hw'
                have HB9 : RowKit.Hid (Below w.heap.size w w9) := Lib.hid ⟨hk9.os.trans h.os, hk9.tape.trans h.tape, hk9.output.trans h.output, Nat.le_trans h.size hk9.size, fun z hz => (hk9.block z (Nat.lt_of_lt_of_le hz h.size) (fun e => by have := Hlo.out; omega)).trans (h.block z hz)⟩
                have HM9 := Lib.hid ((HMy.out.bl hw').kept hk9 (fun e => Hbm.out e.symm))
                have HO9 := Lib.hid ho9
                obtain ⟨V9, gV9⟩ : ∃ z, w9 = z := ⟨_, rfl⟩
                rw [gV9] at HB9 HM9 HO9 ⊢
                clear hw' h ho9 hk9 gV9 HOy HMy HBy
                simp only [Act.put, stA_, st0_, st1_]
                refine wpR_done (by kernel_rfl) ?_ _
                intro W8 hw8
                have HB8 := Lib.hid (bel_bl HB9.out hw8)
                have HM8 := Lib.hid ((HM9.out.bl hw8).mono (show i * 1000000 + j ≤ i * 1000000 + (j + 1) by omega))
                have HO8 := Lib.hid (own_up HO9.out hw8)
                clear hw8 HB9 HM9 HO9
                go_wp2
                go_roundw
                case rel => exact ⟨j + 1, (joinF s.1 a b, s.2), by omega, by go_num, HB8, HO8, HM8, HS2, HF2⟩
                case measure => simp [intOf]; omega
            · obtain rfl : rn = j := by omega
              have HF2 : RowKit.Hid (lab = (labV (i + 1) (Vs.drop (i + 1)) s).1) := Lib.hid (by
                have h1 := HF.out
                have e1 : rL.drop rn = [] := List.drop_eq_nil_of_le (by have := Hlr.out; omega)
                rw [e1] at h1
                exact h1)
              have HM2 := Lib.hid (HM.out.mono (show i * 1000000 + rn ≤ (i + 1) * 1000000 by omega))
              clear HF HM
              go_wp2
              go_roundw
              case rel => exact ⟨i + 1, s, by omega, by go_num, HB, HO, HM2, HS, HF2⟩
              case measure => simp [intOf]; omega
        · obtain rfl : n = i := by omega
          have hF := HF.out
          rw [List.drop_eq_nil_of_le (by have := Hlv.out; omega)] at hF
          replace hF : lab = s.1 := hF
          have HO9 : RowKit.Hid (wo.ownsRow w.heap.size 3 1 (.slice (some ⟨gl, 0, none⟩) n n) n (rowsV n1 lab)) := Lib.hid (by rw [hF]; exact HO.out)
          clear hF HF HO
          go_wp2
          go_ret
          exact ⟨gl, rfl, HO9.out, HB.out⟩
end Go.Proofs.YtmkflebkifbpfaaGreat
/- comp.place. -/
namespace Go.Proofs.YtmkflebkifbpfaaGreat
open Go.RowKit
/-- The place of a vertex; -1: there is none. -/
def placeF : Nat → List VC → I2 → Int
  | _, [], _ => -1
  | j, v :: r, x => if v.1 = x then (j : Int) else placeF (j + 1) r x
end Go.Proofs.YtmkflebkifbpfaaGreat
/- comp.Together. -/
namespace Go.Proofs.YtmkflebkifbpfaaGreat
open Go.RowKit
theorem rds_n1 {W : World} {B g n c : Nat} {L : List Int} (h : RdS W B 1 (some ⟨g, 0, none⟩) n c (rowsV n1 L)) (hl : L.length = n) {i : Nat} (hi : i < n) : W.cell? ⟨g, i, none⟩ = some (.int .i64 (L.getD i 0)) := by
  obtain ⟨x, hx⟩ : ∃ x, L[i]? = some x := ⟨_, List.getElem?_eq_getElem (by omega)⟩
  have h1 := h.elem n1_len hx 0 _ rfl
  simp only [Addr.add_lit, Nat.add_zero, Nat.zero_add, Nat.mul_one] at h1
  rw [List.getD_eq_getElem?_getD, hx]
  exact h1
theorem labV_len : ∀ (Vs : List VC) (i : Nat) (s : St), (labV i Vs s).1.length = s.1.length
  | [], _, _ => rfl
  | v :: r, i, s => by
    rw [labV, labV_len r]
    generalize v.2.1.2.2.2 = R
    induction R generalizing s with
    | nil => rfl
    | cons x R ih =>
      rw [List.foldl_cons, ih]
      unfold stepD
      split
      · exact joinF_len _ _ _
      · rfl
theorem labF_len (Vs : List VC) : (labF Vs).length = Vs.length := by
  rw [labF, labV_len]
  simp [upN]
end Go.Proofs.YtmkflebkifbpfaaGreat
/- Labels, on numbers: none is more than its place, and the label of a label is that label. -/
namespace Go.Proofs.YtmkflebkifbpfaaGreat
open Go.RowKit
/-- What is joined: a number. -/
def jf (a b x : Int) : Int := if x = a ∨ x = b then min a b else x
theorem joinF_get (L : List Int) (a b : Int) {i : Nat} (h : i < L.length) : (joinF L a b).getD i 0 = jf a b (L.getD i 0) := by
  have h2 : i < (joinF L a b).length := by rw [joinF_len]; exact h
  rw [List.getD_eq_getElem?_getD, List.getD_eq_getElem?_getD, List.getElem?_eq_getElem h2, List.getElem?_eq_getElem h]
  simp [joinF, jf]
theorem jf_le (a b x : Int) : jf a b x ≤ x := by
  unfold jf
  split
  · rename_i h
    rcases h with rfl | rfl <;> omega
  · omega
theorem jf_is (a b x : Int) : jf a b x = x ∨ jf a b x = a ∨ jf a b x = b := by
  unfold jf
  split
  · by_cases h : a ≤ b
    · exact .inr (.inl (by omega))
    · exact .inr (.inr (by omega))
  · exact .inl rfl
theorem jf_jf (a b x : Int) : jf a b (jf a b x) = jf a b x := by
  by_cases h : x = a ∨ x = b
  · have e : jf a b x = min a b := if_pos h
    rw [e]
    exact if_pos (by omega)
  · have e : jf a b x = x := if_neg h
    rw [e, e]
/-- Labels. -/
def LbOk (L : List Int) : Prop := ∀ i, i < L.length → 0 ≤ L.getD i 0 ∧ L.getD i 0 ≤ i ∧ L.getD (L.getD i 0).toNat 0 = L.getD i 0
theorem up_get (n i : Nat) (h : i < n) : (upN n).getD i 0 = (i : Int) := by
  rw [List.getD_eq_getElem?_getD, upN, List.getElem?_map, List.getElem?_range h]
  rfl
theorem LbOk.up (n : Nat) : LbOk (upN n) := fun i hi => by
  have hl : (upN n).length = n := by simp [upN]
  rw [hl] at hi
  rw [up_get n i hi, Int.toNat_natCast, up_get n i hi]
  omega
theorem LbOk.join {L : List Int} (h : LbOk L) {p q : Nat} (hp : p < L.length) (hq : q < L.length) : LbOk (joinF L (L.getD p 0) (L.getD q 0)) := fun i hi => by
  rw [joinF_len] at hi
  obtain ⟨a0, a1, a2⟩ := h p hp
  obtain ⟨b0, b1, b2⟩ := h q hq
  obtain ⟨x0, x1, x2⟩ := h i hi
  rw [joinF_get L _ _ hi]
  obtain ⟨a, ga⟩ : ∃ z, L.getD p 0 = z := ⟨_, rfl⟩
  obtain ⟨b, gb⟩ : ∃ z, L.getD q 0 = z := ⟨_, rfl⟩
  obtain ⟨x, gx⟩ : ∃ z, L.getD i 0 = z := ⟨_, rfl⟩
  rw [ga] at a0 a1 a2 ⊢
  rw [gb] at b0 b1 b2 ⊢
  rw [gx] at x0 x1 x2 ⊢
  have hle := jf_le a b x
  have hj := jf_is a b x
  have hjj := jf_jf a b x
  have key : 0 ≤ jf a b x ∧ L.getD (jf a b x).toNat 0 = jf a b x := by
    rcases hj with e | e | e
    · rw [e]; exact ⟨x0, x2⟩
    · rw [e]; exact ⟨a0, a2⟩
    · rw [e]; exact ⟨b0, b2⟩
  refine ⟨key.1, by omega, ?_⟩
  rw [joinF_get L _ _ (by omega), key.2, hjj]
theorem LbOk.step {n i : Nat} {s : St} (h : LbOk s.1) (hs : StOk n s) (hi : i < n) (x : D) : LbOk (stepD i s x).1 := by
  unfold stepD
  split
  · rename_i j hj
    exact h.join (by rw [hs.len]; exact hi) (by rw [hs.len]; exact hs.lt _ _ hj)
  · exact h
theorem fold_ok {n i : Nat} (hi : i < n) : ∀ (R : List D) (s : St), LbOk s.1 → StOk n s → LbOk (R.foldl (stepD i) s).1 ∧ StOk n (R.foldl (stepD i) s)
  | [], s, h, hs => ⟨h, hs⟩
  | x :: R, s, h, hs => fold_ok hi R _ (h.step hs hi x) (hs.step hi x)
theorem labV_ok {n : Nat} : ∀ (Vs : List VC) (i : Nat) (s : St), i + Vs.length ≤ n → LbOk s.1 → StOk n s → LbOk (labV i Vs s).1 ∧ StOk n (labV i Vs s)
  | [], _, s, _, h, hs => ⟨h, hs⟩
  | v :: r, i, s, hn, h, hs => by
    rw [List.length_cons] at hn
    obtain ⟨h1, h2⟩ := fold_ok (n := n) (i := i) (by omega) v.2.1.2.2.2 s h hs
    exact labV_ok r (i + 1) _ (by omega) h1 h2
theorem labF_ok (Vs : List VC) : LbOk (labF Vs) :=
  (labV_ok (n := Vs.length) Vs 0 _ (by omega) (LbOk.up _) ⟨by simp [upN], fun y j h => (by cases h)⟩).1
/-- In a diagram whose names are each another, a vertex is found at its place. -/
theorem place_at : ∀ (Vs : List VC) (j k : Nat) (v : VC), (Vs.map (·.1)).Nodup → Vs[k]? = some v → placeF j Vs v.1 = ((j + k : Nat) : Int)
  | [], _, _, _, _, h => by simp at h
  | u :: r, j, 0, v, _, h => by
    obtain rfl : u = v := by simpa using h
    rw [placeF, if_pos rfl]
    simp
  | u :: r, j, k + 1, v, hn, h => by
    have h1 : r[k]? = some v := by simpa using h
    rw [List.map_cons, List.nodup_cons] at hn
    have hne : u.1 ≠ v.1 := fun e => hn.1 (e ▸ List.mem_map.2 ⟨v, List.mem_of_getElem? h1, rfl⟩)
    rw [placeF, if_neg hne, place_at r (j + 1) k v hn.2 h1]
    congr 1
    omega
end Go.Proofs.YtmkflebkifbpfaaGreat
/- Labels, on numbers: they are the finest ones under which vertices that share an edge are labelled alike; so they hang on nothing else. -/
namespace Go.Proofs.YtmkflebkifbpfaaGreat
open Go.RowKit
/-- Alike under f are all that R joins. -/
def Co (n : Nat) (R : Nat → Nat → Prop) (f : Nat → Int) : Prop := ∀ i k, i < n → k < n → R i k → f i = f k
/-- L is the finest labelling of n places under which R holds; and each label is the least place of its part. -/
structure Lab (n : Nat) (R : Nat → Nat → Prop) (L : List Int) : Prop where
  len : L.length = n
  ok : LbOk L
  co : Co n R (fun i => L.getD i 0)
  fin : ∀ f : Nat → Int, Co n R f → ∀ i k, i < n → k < n → L.getD i 0 = L.getD k 0 → f i = f k
theorem Lab.of_iff {n : Nat} {R R' : Nat → Nat → Prop} {L : List Int} (h : Lab n R L) (hR : ∀ f, Co n R f ↔ Co n R' f) : Lab n R' L :=
  ⟨h.len, h.ok, (hR _).1 h.co, fun f hf => h.fin f ((hR f).2 hf)⟩
theorem Lab.up (n : Nat) : Lab n (fun _ _ => False) (upN n) := by
  refine ⟨by simp [upN], LbOk.up n, fun i k _ _ h => h.elim, fun f _ i k hi hk e => ?_⟩
  rw [up_get n i hi, up_get n k hk] at e
  rw [Int.ofNat_inj.1 e]
theorem jf_yes {a b x : Int} (h : x = a ∨ x = b) : jf a b x = min a b := if_pos h
theorem jf_no {a b x : Int} (h : ¬ (x = a ∨ x = b)) : jf a b x = x := if_neg h
theorem min_is (a b : Int) : min a b = a ∨ min a b = b := by omega
theorem Lab.join {n p q : Nat} {R : Nat → Nat → Prop} {L : List Int} (h : Lab n R L) (hp : p < n) (hq : q < n) :
    Lab n (fun i k => R i k ∨ (i = p ∧ k = q)) (joinF L (L.getD p 0) (L.getD q 0)) := by
  have hl := h.len
  have hg : ∀ i, i < n → (joinF L (L.getD p 0) (L.getD q 0)).getD i 0 = jf (L.getD p 0) (L.getD q 0) (L.getD i 0) := fun i hi => joinF_get L _ _ (by omega)
  refine ⟨by rw [joinF_len]; exact hl, h.ok.join (by omega) (by omega), ?_, ?_⟩
  · rintro i k hi hk (hr | ⟨rfl, rfl⟩)
    · show (joinF L _ _).getD i 0 = (joinF L _ _).getD k 0
      rw [hg i hi, hg k hk]
      exact congrArg _ (h.co i k hi hk hr)
    · show (joinF L _ _).getD i 0 = (joinF L _ _).getD k 0
      rw [hg i hi, hg k hk, jf_yes (.inl rfl), jf_yes (.inr rfl)]
  · intro f hf i k hi hk e
    rw [hg i hi, hg k hk] at e
    have hf1 : Co n R f := fun a b ha hb hr => hf a b ha hb (.inl hr)
    have hpq : f p = f q := hf p q hp hq (.inr ⟨rfl, rfl⟩)
    have yes : ∀ j, j < n → (L.getD j 0 = L.getD p 0 ∨ L.getD j 0 = L.getD q 0) → f j = f p := by
      rintro j hj (e | e)
      · exact h.fin f hf1 j p hj hp e
      · exact (h.fin f hf1 j q hj hq e).trans hpq.symm
    by_cases h1 : L.getD i 0 = L.getD p 0 ∨ L.getD i 0 = L.getD q 0
    · by_cases h2 : L.getD k 0 = L.getD p 0 ∨ L.getD k 0 = L.getD q 0
      · rw [yes i hi h1, yes k hk h2]
      · rw [jf_yes h1, jf_no h2] at e
        exact absurd (by rw [← e]; exact min_is _ _) h2
    · by_cases h2 : L.getD k 0 = L.getD p 0 ∨ L.getD k 0 = L.getD q 0
      · rw [jf_yes h2, jf_no h1] at e
        exact absurd (by rw [e]; exact min_is _ _) h1
      · rw [jf_no h1, jf_no h2] at e
        exact h.fin f hf1 i k hi hk e
theorem Lab.le {n : Nat} {R : Nat → Nat → Prop} {L L' : List Int} (h : Lab n R L) (k : Lab n R L') {i : Nat} (hi : i < n) : L'.getD i 0 ≤ L.getD i 0 := by
  obtain ⟨h0, h1, h2⟩ := h.ok i (by rw [h.len]; exact hi)
  obtain ⟨x, hx⟩ : ∃ x : Nat, L.getD i 0 = (x : Int) := ⟨(L.getD i 0).toNat, by omega⟩
  rw [hx] at h1 h2 ⊢
  rw [Int.toNat_natCast] at h2
  have hxn : x < n := by omega
  have e := h.fin _ k.co x i hxn hi (by rw [h2, hx])
  obtain ⟨k0, k1, k2⟩ := k.ok x (by rw [k.len]; exact hxn)
  omega
/-- There is but one. -/
theorem Lab.uniq {n : Nat} {R : Nat → Nat → Prop} {L L' : List Int} (h : Lab n R L) (k : Lab n R L') : L = L' := by
  refine List.ext_getElem (by rw [h.len, k.len]) fun i h1 h2 => ?_
  have hi : i < n := by rw [← h.len]; exact h1
  have e1 := h.le k hi
  have e2 := k.le h hi
  have e : L.getD i 0 = L'.getD i 0 := by omega
  rw [List.getD_eq_getElem?_getD, List.getD_eq_getElem?_getD, List.getElem?_eq_getElem h1, List.getElem?_eq_getElem h2] at e
  exact e
/-- Joined one behind the other. -/
def joins (P : List (Nat × Nat)) (L : List Int) : List Int := P.foldl (fun L e => joinF L (L.getD e.1 0) (L.getD e.2 0)) L
/-- An edge's dart stands at a place. -/
def Ats (Vs : List VC) (i : Nat) (y : I2) : Prop := ∃ v, Vs[i]? = some v ∧ ∃ x ∈ v.2.1.2.2.2, y = (x.1, x.2.1)
/-- Two places share an edge. -/
def Sh (Vs : List VC) (i k : Nat) : Prop := ∃ y, Ats Vs i y ∧ Ats Vs k y
structure Met (n : Nat) (T : Nat → I2 → Prop) (s : St) : Prop where
  lab : Lab n (fun i k => ∃ y, T i y ∧ T k y) s.1
  yes : ∀ y j, s.2 y = some j → T j y
  no : ∀ y, s.2 y = none → ∀ i, ¬ T i y
theorem Met.step {n i : Nat} {T : Nat → I2 → Prop} {s : St} (h : Met n T s) (ok : StOk n s) (hi : i < n) (x : D) : Met n (fun k y => T k y ∨ (k = i ∧ y = (x.1, x.2.1))) (stepD i s x) := by
  unfold stepD
  split
  · rename_i j hj
    have hT := h.yes _ _ hj
    have hjn := ok.lt _ _ hj
    refine ⟨(h.lab.join hi hjn).of_iff fun f => ?_, fun y k hy => .inl (h.yes y k hy), ?_⟩
    · constructor
      · rintro hf a b ha hb ⟨y, h1, h2⟩
        have hij : f i = f j := hf i j hi hjn (.inr ⟨rfl, rfl⟩)
        rcases h1 with h1 | ⟨rfl, rfl⟩ <;> rcases h2 with h2 | ⟨rfl, e2⟩
        · exact hf a b ha hb (.inl ⟨y, h1, h2⟩)
        · subst e2
          rw [hij]
          exact hf a j ha hjn (.inl ⟨_, h1, hT⟩)
        · rw [hij]
          exact (hf b j hb hjn (.inl ⟨_, h2, hT⟩)).symm
        · rfl
      · rintro hf a b ha hb (⟨y, h1, h2⟩ | ⟨rfl, rfl⟩)
        · exact hf a b ha hb ⟨y, .inl h1, .inl h2⟩
        · exact hf _ _ ha hb ⟨_, .inr ⟨rfl, rfl⟩, .inl hT⟩
    · rintro y hy k (h1 | ⟨rfl, rfl⟩)
      · exact h.no y hy k h1
      · simp only at hy
        rw [hj] at hy
        cases hy
  · rename_i hj
    have hT := h.no _ hj
    refine ⟨h.lab.of_iff fun f => ?_, fun y k hy => ?_, fun y hy k hk => ?_⟩
    · constructor
      · rintro hf a b ha hb ⟨y, h1, h2⟩
        rcases h1 with h1 | ⟨rfl, e1⟩ <;> rcases h2 with h2 | ⟨rfl, e2⟩
        · exact hf a b ha hb ⟨y, h1, h2⟩
        · subst e2
          exact absurd h1 (hT a)
        · subst e1
          exact absurd h2 (hT b)
        · rfl
      · rintro hf a b ha hb ⟨y, h1, h2⟩
        exact hf a b ha hb ⟨y, .inl h1, .inl h2⟩
    · simp only at hy
      split at hy
      · rename_i e
        exact .inr ⟨(Option.some.inj hy).symm, e⟩
      · exact .inl (h.yes y k hy)
    · simp only at hy
      split at hy
      · cases hy
      · rename_i e
        rcases hk with hk | ⟨_, hk⟩
        · exact h.no y hy k hk
        · exact e hk
theorem Met.congr {n : Nat} {T T' : Nat → I2 → Prop} {s : St} (h : Met n T s) (e : ∀ k y, T k y ↔ T' k y) : Met n T' s := by
  have : T = T' := by
    funext k y
    exact propext (e k y)
  exact this ▸ h
theorem fold_met {n i : Nat} (hi : i < n) : ∀ (R : List D) (T : Nat → I2 → Prop) (s : St), Met n T s → StOk n s → Met n (fun k y => T k y ∨ (k = i ∧ ∃ x ∈ R, y = (x.1, x.2.1))) (R.foldl (stepD i) s)
  | [], T, s, h, _ => h.congr fun k y => by simp
  | x :: R, T, s, h, ok => (fold_met hi R _ _ (h.step ok hi x) (ok.step hi x)).congr fun k y => by
      simp only [List.mem_cons, exists_eq_or_imp]
      constructor
      · rintro ((h1 | ⟨h1, h2⟩) | ⟨h1, h2⟩)
        · exact .inl h1
        · exact .inr ⟨h1, .inl h2⟩
        · exact .inr ⟨h1, .inr h2⟩
      · rintro (h1 | ⟨h1, h2 | h2⟩)
        · exact .inl (.inl h1)
        · exact .inl (.inr ⟨h1, h2⟩)
        · exact .inr ⟨h1, h2⟩
theorem fold_st {n i : Nat} (hi : i < n) : ∀ (R : List D) (s : St), StOk n s → StOk n (R.foldl (stepD i) s)
  | [], s, hs => hs
  | x :: R, s, hs => fold_st hi R _ (hs.step hi x)
theorem labV_met {n : Nat} : ∀ (Vs : List VC) (i : Nat) (T : Nat → I2 → Prop) (s : St), i + Vs.length ≤ n → Met n T s → StOk n s →
    Met n (fun k y => T k y ∨ ∃ j, k = i + j ∧ Ats Vs j y) (labV i Vs s)
  | [], i, T, s, _, h, _ => h.congr fun k y => by
      constructor
      · exact .inl
      · rintro (h1 | ⟨j, _, v, hv, _⟩)
        · exact h1
        · cases hv
  | v :: r, i, T, s, hn, h, ok => by
    rw [List.length_cons] at hn
    have hi : i < n := by omega
    refine (labV_met r (i + 1) _ _ (by omega) (fold_met hi v.2.1.2.2.2 T s h ok) (fold_st hi _ s ok)).congr fun k y => ?_
    constructor
    · rintro ((h1 | ⟨h1, h2⟩) | ⟨j, h1, v', h2, h3⟩)
      · exact .inl h1
      · exact .inr ⟨0, by omega, v, rfl, h2⟩
      · exact .inr ⟨j + 1, by omega, v', by simpa using h2, h3⟩
    · rintro (h1 | ⟨j, h1, v', h2, h3⟩)
      · exact .inl (.inl h1)
      · cases j with
        | zero =>
          obtain rfl : v = v' := by simpa using h2
          exact .inl (.inr ⟨by omega, h3⟩)
        | succ j => exact .inr ⟨j, by omega, v', by simpa using h2, h3⟩
/-- What the labels are. -/
theorem labF_lab (Vs : List VC) : Lab Vs.length (Sh Vs) (labF Vs) := by
  have h0 : Met Vs.length (fun _ _ => False) ((upN Vs.length, fun _ => none) : St) :=
    ⟨(Lab.up _).of_iff fun f => by simp [Co], fun y j h => (by cases h), fun _ _ _ h => h⟩
  have h1 := (labV_met Vs 0 _ _ (by omega) h0 ⟨by simp [upN], fun y j h => (by cases h)⟩).lab
  refine h1.of_iff fun f => ?_
  constructor
  · rintro hf a b ha hb ⟨y, h1, h2⟩
    exact hf a b ha hb ⟨y, .inr ⟨a, by omega, h1⟩, .inr ⟨b, by omega, h2⟩⟩
  · rintro hf a b ha hb ⟨y, h1 | ⟨j, h1, h3⟩, h2⟩
    · exact h1.elim
    · rcases h2 with h2 | ⟨j2, h2, h4⟩
      · exact h2.elim
      · obtain rfl : a = j := by omega
        obtain rfl : b = j2 := by omega
        exact hf a b ha hb ⟨y, h3, h4⟩
/-- Labels hang on which edges stand at which place, and on no order. -/
theorem labF_same {Vs Ws : List VC} (hl : Ws.length = Vs.length) (h : ∀ i y, Ats Ws i y ↔ Ats Vs i y) : labF Ws = labF Vs := by
  have h1 := labF_lab Ws
  rw [hl] at h1
  refine h1.uniq ((labF_lab Vs).of_iff fun f => ?_)
  have : Sh Vs = Sh Ws := by
    funext i k
    refine propext ⟨?_, ?_⟩ <;> rintro ⟨y, a, b⟩
    · exact ⟨y, (h i y).2 a, (h k y).2 b⟩
    · exact ⟨y, (h i y).1 a, (h k y).1 b⟩
  rw [this]
/-! How many parts there are. -/
def rootB (L : List Int) (i : Nat) : Bool := L.getD i 0 == (i : Int)
def cntF (L : List Int) : Nat := (List.range L.length).countP (rootB L)
end Go.Proofs.YtmkflebkifbpfaaGreat
/- Parts, on numbers: the names of each part's vertices, by its first one; and one vertex more. -/
namespace Go.Proofs.YtmkflebkifbpfaaGreat
open Go.RowKit
/-- Which of the parts begins there. -/
def rk (L : List Int) (r : Nat) : Nat := (List.range r).countP (rootB L)
def rootsJ (L : List Int) (j : Nat) : List Nat := (List.range j).filter (rootB L)
def partJ (L : List Int) (N : Nat → I2) (j r : Nat) : List I2 := ((List.range j).filter fun k => L.getD k 0 == (r : Int)).map N
def partsJ (L : List Int) (N : Nat → I2) (j : Nat) : List (List I2) := (rootsJ L j).map (partJ L N j)
def nmV (Vs : List VC) (k : Nat) : I2 := (Vs.map (·.1)).getD k (0, 0)
def partsF (Vs : List VC) : List (List I2) := partsJ (labF Vs) (nmV Vs) Vs.length
theorem rootsJ_len (L : List Int) (j : Nat) : (rootsJ L j).length = rk L j := by rw [rootsJ, rk, List.countP_eq_length_filter]
theorem partsJ_len (L : List Int) (N : Nat → I2) (j : Nat) : (partsJ L N j).length = rk L j := by rw [partsJ, List.length_map, rootsJ_len]
theorem rootsJ_succ (L : List Int) (j : Nat) : rootsJ L (j + 1) = rootsJ L j ++ (if rootB L j then [j] else []) := by
  unfold rootsJ
  rw [List.range_succ, List.filter_append]
  cases h : rootB L j <;> simp [h]
theorem rk_succ (L : List Int) (j : Nat) : rk L (j + 1) = rk L j + (if rootB L j then 1 else 0) := by
  rw [← rootsJ_len, ← rootsJ_len, rootsJ_succ, List.length_append]
  cases rootB L j <;> rfl
theorem rootsJ_at {L : List Int} {l : Nat} (hl : rootB L l = true) : ∀ (j : Nat), l < j → (rootsJ L j)[rk L l]? = some l
  | 0, h => by omega
  | j + 1, h => by
    rw [rootsJ_succ]
    by_cases e : l = j
    · subst e
      rw [hl, ← rootsJ_len, List.getElem?_append_right (Nat.le_refl _), Nat.sub_self]
      rfl
    · have h1 := rootsJ_at hl j (by omega)
      rw [List.getElem?_append_left (List.getElem?_eq_some_iff.1 h1).1, h1]
theorem rootsJ_lt {L : List Int} {j r : Nat} (h : r ∈ rootsJ L j) : r < j ∧ rootB L r = true := by
  rw [rootsJ, List.mem_filter, List.mem_range] at h
  exact h
theorem nodup_idx {α : Type} {l : List α} (h : l.Nodup) {i j : Nat} (hi : i < l.length) (hj : j < l.length) (e : l[i] = l[j]) : i = j := by
  have h1 := List.pairwise_iff_getElem.1 h
  rcases Nat.lt_trichotomy i j with h2 | h2 | h2
  · exact absurd e (h1 i j hi hj h2)
  · exact h2
  · exact absurd e.symm (h1 j i hj hi h2)
theorem rootsJ_nodup (L : List Int) (j : Nat) : (rootsJ L j).Nodup := List.Nodup.sublist List.filter_sublist List.nodup_range
theorem partJ_succ (L : List Int) (N : Nat → I2) (j r : Nat) : partJ L N (j + 1) r = partJ L N j r ++ (if L.getD j 0 = (r : Int) then [N j] else []) := by
  unfold partJ
  rw [List.range_succ, List.filter_append, List.map_append]
  by_cases h : L.getD j 0 = (r : Int)
  · rw [if_pos h]
    simp only [List.filter_cons, h, beq_self_eq_true, if_true, List.filter_nil, List.map_cons, List.map_nil]
  · rw [if_neg h]
    have h1 : (L.getD j 0 == (r : Int)) = false := beq_eq_false_iff_ne.2 h
    simp only [List.filter_cons, h1, Bool.false_eq_true, if_false, List.filter_nil, List.map_nil]
/-- A vertex that begins a part. -/
theorem parts_root {L : List Int} (hL : LbOk L) (N : Nat → I2) {j : Nat} (hj : j < L.length) (hr : L.getD j 0 = (j : Int)) :
    partsJ L N (j + 1) = (partsJ L N j ++ [[]]).set (rk L j) [N j] := by
  have hb : rootB L j = true := by rw [rootB, hr]; simp
  have hl := partsJ_len L N j
  rw [partsJ, rootsJ_succ, hb, if_pos rfl, List.map_append, List.set_append_right _ _ (by omega), hl, Nat.sub_self]
  have e1 : (rootsJ L j).map (partJ L N (j + 1)) = partsJ L N j := by
    refine List.map_congr_left fun r h => ?_
    have := (rootsJ_lt h).1
    rw [partJ_succ, hr, if_neg (by omega), List.append_nil]
  have e2 : partJ L N (j + 1) j = [N j] := by
    rw [partJ_succ, hr, if_pos rfl]
    have : partJ L N j j = [] := by
      unfold partJ
      rw [List.filter_eq_nil_iff.2 fun k hk => ?_]
      · rfl
      · have hk := List.mem_range.1 hk
        have := (hL k (by omega)).2.1
        simp only [beq_iff_eq]
        omega
    rw [this]; rfl
  rw [e1]
  simp [e2]
/-- A vertex of a part that is there. -/
theorem parts_more {L : List Int} (hL : LbOk L) (N : Nat → I2) {j : Nat} (hj : j < L.length) {l : Nat} (hr : L.getD j 0 = (l : Int)) (hlj : l ≠ j) :
    l < j ∧ rootB L l = true ∧ (partsJ L N j)[rk L l]? = some (partJ L N j l) ∧ partsJ L N (j + 1) = (partsJ L N j).set (rk L l) (partJ L N j l ++ [N j]) := by
  obtain ⟨h0, h1, h2⟩ := hL j hj
  rw [hr] at h1 h2
  rw [Int.toNat_natCast] at h2
  have hlt : l < j := by omega
  have hb : rootB L l = true := by rw [rootB, h2]; simp
  have hbj : rootB L j = false := by
    rw [rootB, hr]
    exact beq_eq_false_iff_ne.2 (by omega)
  have hat := rootsJ_at hb j hlt
  have hat2 : (partsJ L N j)[rk L l]? = some (partJ L N j l) := by rw [partsJ, List.getElem?_map, hat]; rfl
  refine ⟨hlt, hb, hat2, ?_⟩
  have er : rootsJ L (j + 1) = rootsJ L j := by rw [rootsJ_succ, hbj]; simp
  refine List.ext_getElem? fun q => ?_
  rw [partsJ, er, List.getElem?_map, List.getElem?_set]
  by_cases hq : rk L l = q
  · subst hq
    rw [if_pos rfl, hat, if_pos (List.getElem?_eq_some_iff.1 hat2).1]
    show some (partJ L N (j + 1) l) = _
    rw [partJ_succ, hr, if_pos rfl]
  · rw [if_neg hq, partsJ, List.getElem?_map]
    cases hg : (rootsJ L j)[q]? with
    | none => rfl
    | some r =>
      show some (partJ L N (j + 1) r) = some (partJ L N j r)
      have hne : l ≠ r := by
        rintro rfl
        refine hq ?_
        have h5 := List.getElem?_eq_some_iff.1 hat
        have h6 := List.getElem?_eq_some_iff.1 hg
        exact nodup_idx (rootsJ_nodup L j) h5.1 h6.1 (h5.2.trans h6.2.symm)
      rw [partJ_succ, hr, if_neg (by omega), List.append_nil]
/-- The places of the parts that began. -/
def plcF (L : List Int) (j : Nat) (x : Int) : Option Nat := if 0 ≤ x ∧ x.toNat < j ∧ rootB L x.toNat = true then some (rk L x.toNat) else none
theorem plcF_more {L : List Int} {j l : Nat} (hl : l < j) (hb : rootB L l = true) : plcF L j (l : Int) = some (rk L l) := by
  unfold plcF
  rw [if_pos ⟨by omega, by simpa using hl, by simpa using hb⟩, Int.toNat_natCast]
theorem plcF_root {L : List Int} {j : Nat} (hb : rootB L j = true) : (fun x => if x = (j : Int) then some (rk L j) else plcF L j x) = plcF L (j + 1) := by
  funext x
  unfold plcF
  by_cases h : x = (j : Int)
  · subst h
    rw [if_pos rfl, if_pos ⟨by omega, by simp, by simpa using hb⟩, Int.toNat_natCast]
  · rw [if_neg h]
    by_cases h0 : 0 ≤ x
    · have : (x.toNat < j) = (x.toNat < j + 1) := by
        have : x.toNat ≠ j := by omega
        simp only [eq_iff_iff]
        omega
      simp only [this]
    · simp [h0]
theorem plcF_no {L : List Int} {j : Nat} (hb : rootB L j = false) : plcF L j = plcF L (j + 1) := by
  funext x
  unfold plcF
  by_cases h : x = (j : Int)
  · subst h
    simp [hb]
  · by_cases h0 : 0 ≤ x
    · have : (x.toNat < j) = (x.toNat < j + 1) := by
        have : x.toNat ≠ j := by omega
        simp only [eq_iff_iff]
        omega
      simp only [this]
    · simp [h0]
/-- The map of places, as it lies in memory. -/
def plcV (L : List Int) (j : Nat) (x : Int) : Option Value := (plcF L j x).map fun p : Nat => Value.int .i64 (p : Int)
end Go.Proofs.YtmkflebkifbpfaaGreat
/- Rows of rows of one's own: each inner row in a block of its own, and growing. -/
namespace Go.Proofs.YtmkflebkifbpfaaGreat
open Go.RowKit
section
variable {α : Type}
/-- A row as it lies in memory: where, with how much room, and what it holds. -/
abbrev Rw (α : Type) := Option Addr × Nat × List α
def rwV (x : Rw α) : Value := .slice x.1 x.2.2.length x.2.1
def rwC (x : Rw α) : List Value := [rwV x]
theorem rwC_len (x : Rw α) : (rwC x).length = 1 := rfl
structure RowsIn (W : World) (lo : Nat) (TR TE : TypeId) (s : Nat) (f : α → List Value) (A : Option Addr) (n c : Nat) (X : List (Rw α)) : Prop where
  row : W.ownsRow lo TR 1 (.slice A n c) n (rowsV rwC X)
  len : X.length = n
  one : ∀ x ∈ X, W.ownsRow lo TE s (rwV x) x.2.2.length (rowsV f x.2.2)
  ne : ∀ (i j : Nat) (x y : Rw α) (a b : Addr), i ≠ j → X[i]? = some x → X[j]? = some y → x.1 = some a → y.1 = some b → a.block ≠ b.block
variable {W W' : World} {lo : Nat} {TR TE : TypeId} {s : Nat} {f : α → List Value} {A : Option Addr} {n c : Nat} {X : List (Rw α)}
theorem RowsIn.up (h : RowsIn W lo TR TE s f A n c X) (hb : Below W.heap.size W W') : RowsIn W' lo TR TE s f A n c X :=
  ⟨own_up h.row hb, h.len, fun x hx => own_up (h.one x hx) hb, h.ne⟩
theorem RowsIn.al (h : RowsIn W lo TR TE s f A n c X) (o : Obj) : RowsIn (W.alloc o) lo TR TE s f A n c X := h.up (below1 W o)
theorem RowsIn.dr (h : RowsIn W lo TR TE s f A n c X) : RowsIn W.drew lo TR TE s f A n c X := h.up ((Below.refl _ _).drew)
theorem RowsIn.bl (h : RowsIn W lo TR TE s f A n c X) (hb : Below W.heap.size W W') : RowsIn W' lo TR TE s f A n c X := h.up hb
theorem RowsIn.nil_ (W : World) (lo : Nat) : RowsIn W lo TR TE s f none 0 0 ([] : List (Rw α)) :=
  ⟨World.ownsRow_nil W lo TR 1, rfl, fun x hx => (by cases hx), fun i j x y a b _ h => (by simp at h)⟩
/-- Two rows of two element types have two blocks. -/
theorem own_two {W : World} {l1 l2 k1 k2 n1 n2 g : Nat} {T1 T2 : TypeId} {v1 v2 : Value} {xs ys : List Value} (h : W.ownsRow l1 T1 k1 v1 n1 xs) (k : W.ownsRow l2 T2 k2 v2 n2 ys) (hT : T1 ≠ T2) (e1 : v1.ownBlock = some g) (e2 : v2.ownBlock = some g) : False := by
  rcases h.2 with ⟨rfl, h2⟩ | ⟨g', cap, cur, rfl, hb, hg, -⟩
  · cases e1
  rcases k.2 with ⟨rfl, k2⟩ | ⟨g2, cap2, cur2, rfl, hb2, hg2, -⟩
  · cases e2
  obtain rfl : g' = g := Option.some.inj e1
  obtain rfl : g2 = g' := Option.some.inj e2
  rw [hg] at hg2
  injection hg2 with q
  injection q with q1 q2
  exact hT q2
theorem rw_block (x : Rw α) : (rwV x).ownBlock = x.1.map (·.block) := by cases h : x.1 <;> simp [rwV, h, Value.ownBlock]
theorem RowsIn.far (h : RowsIn W lo TR TE s f A n c X) {r : Option Nat} (hg : W.grownBy W' r) (h1 : ∀ g, r = some g → (Value.slice A n c).ownBlock ≠ some g) (h2 : ∀ x ∈ X, ∀ g, r = some g → (rwV x).ownBlock ≠ some g) : RowsIn W' lo TR TE s f A n c X := by
  refine ⟨h.row.kept hg ?_, h.len, fun x hx => (h.one x hx).kept hg ?_, h.ne⟩
  · cases r with
    | none => cases hh : (Value.slice A n c).ownBlock <;> simp
    | some g => exact .inr (h1 g rfl)
  · cases r with
    | none => cases hh : (rwV x).ownBlock <;> simp
    | some g => exact .inr (h2 x hx g rfl)
/-- An empty row more. -/
theorem RowsIn.push_nil {P : Program} (h : RowsIn W lo TR TE s f A n c X) (t ty : TypeId) (i : TypeInfo) (z : Value) (ht : P.underlying t = some (.slice TR)) (hi : P.info? TR = some i) (hz : i.zero = some z) (hsize : i.size = 1) (hby : i.bytes = 24) (hzs : z.cells.size = 1)
    (hT : TR ≠ TE) (hn : n ≤ 1000000) (hlo : lo ≤ W.heap.size) (BB : Nat) (A1 : Option Addr) (c1 : Nat) (hr : RdS W BB 1 A1 1 c1 [.slice none 0 0]) :
    ∃ A' c' W', (Builtin.append_ #[t, t] ty #[.slice A n c, .slice A1 1 c1]).run P W = .ok (.slice A' (n + 1) c') W' ∧ RowsIn W' lo TR TE s f A' (n + 1) c' (X ++ [(none, 0, [])]) ∧ Below lo W W' ∧ W.grownBy W' (Value.slice A n c).ownBlock := by
  obtain ⟨a1, rfl⟩ : ∃ a1, A1 = some a1 := by
    cases A1 with
    | none => have := (hr.none_ rfl).1; omega
    | some a1 => exact ⟨a1, rfl⟩
  obtain ⟨v', W2, hrun, hown, hg, hn0, hb⟩ := run_append_own_at (P := P) W lo t ty TR i z 1 24 ht hi hz hsize hby hzs (by decide) _ n _ h.row a1 1 c1 _ hr.len (hr.cell a1 rfl) (by simp [Value.oneCell']) (by unfold maxLen; omega) (by omega) hlo
  have hk : ∀ k, (Value.slice A n c).ownBlock = some k → lo ≤ k := fun k hk => (h.row.lt k hk).1
  obtain ⟨A', c', rfl, _⟩ := RdS.of_own hown
  have e : rowsV rwC X ++ [Value.slice none 0 0] = rowsV rwC (X ++ [((none, 0, []) : Rw α)]) := by rw [rowsV_app]; rfl
  rw [e] at hown
  refine ⟨A', c', W2, hrun, ⟨hown, by simp [h.len], fun x hx => ?_, fun i j x y a b hij hx hy hxa hyb => ?_⟩, (Below.refl lo W).grown hg hlo hk, hg⟩
  · rcases List.mem_append.1 hx with hx | hx
    · refine (h.one x hx).kept hg ?_
      cases hv : (rwV x).ownBlock with
      | none => exact .inl rfl
      | some g => exact .inr fun q => own_two h.row (h.one x hx) hT q.symm hv
    · obtain rfl := List.mem_singleton.1 hx
      exact World.ownsRow_nil _ _ _ _
  · have get : ∀ (i : Nat) (x : Rw α) (a : Addr), (X ++ [((none, 0, []) : Rw α)])[i]? = some x → x.1 = some a → X[i]? = some x := fun i x a hx ha => by
      by_cases hi : i < X.length
      · rw [List.getElem?_append_left hi] at hx; exact hx
      · rw [List.getElem?_append_right (by omega)] at hx
        have hm := List.mem_of_getElem? hx
        obtain rfl := List.mem_singleton.1 hm
        cases ha
    exact h.ne i j x y a b hij (get i x a hx hxa) (get j y b hy hyb) hxa hyb
/-- One more in one of the rows: the append; and, in whatever world behind it, that the new row is laid into its place. -/
theorem RowsIn.grow {P : Program} (h : RowsIn W lo TR TE s f A n c X) {p : Nat} {x : Rw α} (hx : X[p]? = some x) (hs : ∀ y, (f y).length = s) (t ty : TypeId) (i : TypeInfo) (z : Value) (bytes : Nat) (ht : P.underlying t = some (.slice TE)) (hi : P.info? TE = some i) (hz : i.zero = some z) (hsize : i.size = s) (hby : i.bytes = bytes) (hzs : z.cells.size = s) (hs0 : 0 < s)
    (hT : TR ≠ TE) (hn : x.2.2.length ≤ 1000000) (hb24 : bytes ≤ 100) (hlo : lo ≤ W.heap.size) (BB : Nat) (A1 : Option Addr) (c1 : Nat) (y : α) (hr : RdS W BB s A1 1 c1 (f y)) (h1 : ∀ u ∈ f y, u.oneCell' = true) :
    ∃ A' c' W', (Builtin.append_ #[t, t] ty #[rwV x, .slice A1 1 c1]).run P W = .ok (rwV (A', c', x.2.2 ++ [y])) W' ∧ Below lo W W' ∧ W.grownBy W' (rwV x).ownBlock ∧
      ∀ W2, Below W'.heap.size W' W2 → ∃ g, A = some ⟨g, 0, none⟩ ∧ lo ≤ g ∧ (∃ cs, Whole W2 g TR cs) ∧ W2.cell? ⟨g, p, none⟩ = some (rwV x) ∧ W2.frozen? ⟨g, p, none⟩ = false ∧ RowsIn (W2.setCell ⟨g, p, none⟩ (rwV (A', c', x.2.2 ++ [y]))) lo TR TE s f A n c (X.set p (A', c', x.2.2 ++ [y])) := by
  obtain ⟨a1, rfl⟩ : ∃ a1, A1 = some a1 := by
    cases A1 with
    | none => have := (hr.none_ rfl).1; omega
    | some a1 => exact ⟨a1, rfl⟩
  have hox := h.one x (List.mem_of_getElem? hx)
  have hp : p < n := by have := (List.getElem?_eq_some_iff.1 hx).1; have := h.len; omega
  have hsum : (x.2.2.length + 1) * bytes ≤ 140737488355328 := Nat.le_trans (Nat.mul_le_mul_left _ hb24) (by omega)
  obtain ⟨v', W1, hrun, hown, hg, hn0, hbk⟩ := run_append_own_at (P := P) W lo t ty TE i z s bytes ht hi hz hsize hby hzs hs0 _ _ _ hox a1 1 c1 _ hr.len (hr.cell a1 rfl) h1 (by unfold maxLen; omega) hsum hlo
  have hk : ∀ k, (rwV x).ownBlock = some k → lo ≤ k := fun k hk => (hox.lt k hk).1
  obtain ⟨A', c', rfl, _⟩ := RdS.of_own hown
  have e : rowsV f x.2.2 ++ f y = rowsV f (x.2.2 ++ [y]) := by
    rw [rowsV_app]
    simp [rowsV]
  rw [e] at hown
  have hrow1 : W1.ownsRow lo TR 1 (.slice A n c) n (rowsV rwC X) := h.row.kept hg (by
    cases hv : (Value.slice A n c).ownBlock with
    | none => exact .inl rfl
    | some g => exact .inr fun q => own_two h.row hox hT hv q.symm)
  have hev : rwV (A', c', x.2.2 ++ [y]) = .slice A' (x.2.2.length + 1) c' := by simp [rwV]
  refine ⟨A', c', W1, by rw [hev]; exact hrun, (Below.refl lo W).grown hg hlo hk, hg, fun W2 hW2 => ?_⟩
  have hrow2 := own_up hrow1 hW2
  obtain ⟨g, junk, rfl, hg0, hw, hc, hf, hset⟩ := own_poke (i := 0) (y := (A', c', x.2.2 ++ [y])) (u := rwV (A', c', x.2.2 ++ [y])) rwC_len hrow2 hx hp (by decide) rfl
  simp only [Nat.mul_one, Nat.add_zero] at hc hf hset
  refine ⟨g, rfl, hg0, ⟨_, hw⟩, hc, hf, ⟨hset, by simp [h.len], fun u hu => ?_, fun i j u v a b hij hu hv hua hvb => ?_⟩⟩
  · have hnew : ∀ v m ys, W1.ownsRow lo TE s v m ys → (W2.setCell ⟨g, p, none⟩ (rwV (A', c', x.2.2 ++ [y]))).ownsRow lo TE s v m ys := fun v m ys hv => by
      have hv2 := own_up hv hW2
      refine own_cell_far hv2 (fun q => ?_) _
      exact own_two hrow2 hv2 hT rfl q.symm
    obtain ⟨q, hq⟩ := List.getElem?_of_mem hu
    rw [List.getElem?_set] at hq
    split at hq
    · split at hq
      · obtain rfl := Option.some.inj hq
        have h5 := hnew _ _ _ hown
        rw [← hev] at h5
        have e6 : (x.2.2 ++ [y]).length = x.2.2.length + 1 := by simp
        show (W2.setCell ⟨g, p, none⟩ (rwV (A', c', x.2.2 ++ [y]))).ownsRow lo TE s (rwV (A', c', x.2.2 ++ [y])) (x.2.2 ++ [y]).length (rowsV f (x.2.2 ++ [y]))
        rw [e6]
        exact h5
      · cases hq
    · rename_i hne
      refine hnew _ _ _ ((h.one u (List.mem_of_getElem? hq)).kept hg ?_)
      cases hv : (rwV u).ownBlock with
      | none => exact .inl rfl
      | some gu =>
        refine .inr fun q2 => ?_
        rw [rw_block] at hv q2
        cases hu1 : u.1 with
        | none => rw [hu1] at hv; cases hv
        | some au =>
          cases hx1 : x.1 with
          | none => rw [hx1] at q2; cases q2
          | some ax =>
            rw [hu1] at hv
            rw [hx1] at q2
            refine h.ne p q x u ax au hne hx hq hx1 hu1 ?_
            have h1 : au.block = gu := Option.some.inj hv
            have h2 := Option.some.inj q2
            first | exact h2.symm.trans h1.symm | exact h2.trans h1.symm | (simp only at h2; omega)
  · -- blocks are each another
    have old : ∀ (q : Nat) (u : Rw α) (a b : Addr), q ≠ p → X[q]? = some u → u.1 = some a → A' = some b → a.block ≠ b.block := fun q u a b hqp hq hua hAb hab => by
      have hbb : (Value.slice A' (x.2.2.length + 1) c').ownBlock = some b.block := by rw [hAb]; rfl
      have hlt := (h.one u (List.mem_of_getElem? hq)).lt a.block (by rw [rw_block, hua]; rfl)
      rcases hbk with hbk | hbk
      · rw [hbb, rw_block] at hbk
        cases hx1 : x.1 with
        | none => rw [hx1] at hbk; cases hbk
        | some ax =>
          rw [hx1] at hbk
          have h2 : b.block = ax.block := Option.some.inj hbk
          exact h.ne q p u x a ax hqp hq hx hua hx1 (by rw [hab, h2])
      · rw [hbb] at hbk
        have := Option.some.inj hbk
        omega
    rw [List.getElem?_set] at hu hv
    split at hu
    · rename_i hpi
      split at hu
      · split at hv
        · rename_i hpj; omega
        · rename_i hpj
          obtain rfl := Option.some.inj hu
          exact fun q => old j v b a (fun e => hpj e.symm) hv hvb hua q.symm
      · cases hu
    · rename_i hpi
      split at hv
      · split at hv
        · obtain rfl := Option.some.inj hv
          exact old i u a b (fun e => hpi e.symm) hu hua hvb
        · cases hv
      · exact h.ne i j u v a b hij hu hv hua hvb
end
end Go.Proofs.YtmkflebkifbpfaaGreat
/- A lookup that asks for the element alone. -/
namespace Go.Proofs.YtmkflebkifbpfaaGreat
open Go.RowKit Go.Maps
section
variable {P : Program} {t K e : TypeId} {κ : Type} [DecidableEq κ] {k : KeyK P K κ} {b n : Nat} {f : κ → Option Value} {w : World} {x : κ} {ops : Array Oper} {rest : List Oper} {o : Oper} {a : Act} {Q : Exit → Act → World → Prop}
theorem MapF.get (h : MapF w k b n f) (ht : P.underlying t = some (.map K e)) {z : Value} (hz : (zeroValue e).run P w = .ok z w) (hx : k.wf x) :
    (Instr.lookup t (.map (some b)) (k.enc x) false).run P w = .ok ((f x).getD z) w := by
  obtain ⟨D, h1, h2⟩ := h
  obtain ⟨v, ps, hrun, hv⟩ := World.ownsMap.lookup h1 k.keyed ht hz (zd := .held z) (zp := []) rfl (k.key x hx)
  obtain ⟨h3, h4⟩ := h2 x hx
  have h5 := (Prod.mk.inj (Option.some.inj hv)).1
  rw [h4 z] at h5
  injection h5 with h5
  rw [hrun, ← h5]
theorem exec_mapGet {P : Program} {ev : Operand → Value} {o : Oper} {w w' : World} {t : TypeId} {m x : Operand} {key v : Value} {b : Option Nat} (ho : o.op = .lookup t m x false) (hm : ev m = .map b) (hx : ev x = key)
    (hrun : (Instr.lookup t (.map b) key false).run P w = .ok v w') : (execOp ev o).run P w = .ok (.value v) w' := by
  simp [execOp, ho, hm, hx, hrun, Result.andThen]
theorem wl_mapGet (hg : o.guard = none) (m y : Operand) (ho : o.op = .lookup t m y false) (hm : a.eval m = .map (some b)) (h : MapF w k b n f) (ht : P.underlying t = some (.map K e)) {z : Value} (hz : (zeroValue e).run P w = .ok z w) (hx : k.wf x)
    (hy : a.eval y = k.enc x) (hK : wpList P ops Q rest (a.put o.dst ((f x).getD z)) w) : wpList P ops Q (o :: rest) a w := by
  refine wpList_plain hg fun K' hK' => ?_
  unfold Oper.wp
  rw [exec_mapGet ho hm hy (h.get ht hz hx)]
  exact hK' _ _ hK
end
end Go.Proofs.YtmkflebkifbpfaaGreat
/- comp.Parts, comp.Count. -/
namespace Go.Proofs.YtmkflebkifbpfaaGreat
open Go.RowKit Go.Maps
def keyI : KeyK Tryz.prog 3 Int where
  enc x := .int .i64 x
  kl x := .int .i64 x
  wf x := (Lit.int .i64 x).wf = true
  keyed := int_keyed Tryz.underlying3 
  key x hx := keyOf_int_mk Tryz.underlying3 hx
  inj x y _ _ h := by injection h
  lit x hx := (int_keyed Tryz.underlying3).key (keyOf_int_mk Tryz.underlying3 hx)
theorem info_rowI : (Tryz.prog.info? 73).map (fun i => (i.zero, i.size, i.bytes)) = some (some (.slice none 0 0), 1, 24) := by kernel_rfl
theorem info_idI : (Tryz.prog.info? 41).map (fun i => (i.zero, i.size, i.bytes)) = some (some (.agg #[.int .i64 0, .int .i64 0]), 2, 16) := by kernel_rfl
abbrev PtIn (W : World) (lo : Nat) (A : Option Addr) (n c : Nat) (X : List (Rw I2)) : Prop := RowsIn W lo 73 41 2 idC A n c X
theorem plcV_nil (L : List Int) : plcV L 0 = fun _ => none := by
  funext x
  unfold plcV plcF
  rw [if_neg (by omega)]
  rfl
theorem plcV_put {W : World} {b n j : Nat} {L : List Int} (hb : rootB L j = true) (h : MapF W keyI b n (fun y => if y = (j : Int) then some (.int .i64 ((rk L j : Nat) : Int)) else plcV L j y)) : MapF W keyI b n (plcV L (j + 1)) := by
  have e : plcV L (j + 1) = (fun y => if y = (j : Int) then some (Value.int .i64 ((rk L j : Nat) : Int)) else plcV L j y) := by
    funext y
    unfold plcV
    rw [← plcF_root hb]
    simp only
    split <;> rfl
  rw [e]
  exact h
theorem plcV_no {j : Nat} {L : List Int} (hb : rootB L j = false) : plcV L (j + 1) = plcV L j := by
  unfold plcV
  rw [plcF_no hb]
theorem wf_nat (n : Nat) (h : n ≤ 1000000) : keyI.wf (n : Int) := by
  have e1 : IntKind.i64.min = -9223372036854775808 := by decide
  have e2 : IntKind.i64.max = 9223372036854775807 := by decide
  show (Lit.int .i64 (n : Int)).wf = true
  simp only [Lit.wf, e1, e2, Bool.and_eq_true, decide_eq_true_eq]
  omega
theorem idC_one (x : I2) : ∀ u ∈ idC x, u.oneCell' = true := by simp [idC, Value.oneCell']
theorem partsJ_up (L : List Int) (N : Nat → I2) (X : List (Rw I2)) (j : Nat) (h : X.map (·.2.2) = partsJ L N j) : X.length = rk L j := by
  have := congrArg List.length h
  rwa [List.length_map, partsJ_len] at this
theorem own_lo {W : World} {B B' n : Nat} {e : TypeId} {size : Nat} {v : Value} {xs : List Value} (h : W.ownsRow B e size v n xs) (hB : B' ≤ B) : W.ownsRow B' e size v n xs := by
  refine ⟨h.1, ?_⟩
  rcases h.2 with hn | ⟨g, cap, cur, h1, hb, rest⟩
  · exact .inl hn
  · exact .inr ⟨g, cap, cur, h1, Nat.le_trans hB hb, rest⟩
theorem map_set_ (X : List (Rw I2)) (p : Nat) (y : Rw I2) : (X.set p y).map (·.2.2) = (X.map (·.2.2)).set p y.2.2 := by rw [List.map_set]
set_option maxRecDepth 100000 in
set_option maxHeartbeats 4000000 in
theorem parts_any (A : Option Addr) (n c : Nat) (Vs : List VC) (B : Option Addr) (m k : Nat) (Es : List EC) (w : World) (h : DgIn w A n c Vs B m k Es) (hn : n ≤ 1000000) (hr : ∀ x ∈ Vs, x.2.1.2.1 ≤ 1000000) (hv : ∀ v ∈ Vs, ∀ d ∈ v.2.1.2.2.2, wfD d) :
    Calls Tryz.prog 102 #[.agg #[.slice A n c, .slice B m k]] w fun e w' => ∃ A2 c2 X, e = .returned (.slice A2 (cntF (labF Vs)) c2) ∧ PtIn w' w.heap.size A2 (cntF (labF Vs)) c2 X ∧ X.map (·.2.2) = partsF Vs ∧ Below w.heap.size w w' := by
  have HV := Lib.hid h.v
  have Hlv := Lib.hid (h.v.rlen vC_len (by decide))
  have HDa := Lib.hid h
  obtain ⟨i1I, hi1, hz01, hz11, hz21⟩ := info_partsD info_idI
  obtain ⟨i2I, hi2, hz02, hz12, hz22⟩ := info_partsD info_rowI
  obtain ⟨R, gR⟩ : ∃ z, partsF Vs = z := ⟨_, rfl⟩
  have hcn : cntF (labF Vs) = rk (labF Vs) n := by rw [cntF, labF_len, Hlv.out]; rfl
  rw [gR, hcn]
  unfold partsF at gR
  have hLok := labF_ok Vs
  have hll := labF_len Vs
  obtain ⟨L, gL⟩ : ∃ z, labF Vs = z := ⟨_, rfl⟩
  rw [gL] at gR hLok hll ⊢
  rw [Hlv.out] at gR hll
  have HLok := Lib.hid hLok
  have HLl := Lib.hid hll
  have HR0 := Lib.hid gR
  have HLb : RowKit.Hid (∀ W, DgIn W A n c Vs B m k Es → Calls Tryz.prog 108 #[.agg #[.slice A n c, .slice B m k]] W fun e w' => ∃ g, e = .returned (.slice (some ⟨g, 0, none⟩) n n) ∧ w'.ownsRow W.heap.size 3 1 (.slice (some ⟨g, 0, none⟩) n n) n (rowsV n1 L) ∧ Below W.heap.size W w') := Lib.hid (fun W h => by
    refine (labels_any A n c Vs B m k Es W h hn hr hv).mono ?_
    rintro e w' ⟨g, rfl, ho, hb⟩
    rw [gL] at ho
    exact ⟨g, rfl, ho, hb⟩)
  clear h hr hv gR gL hcn hLok hll
  have hmm := @run_makeMap Tryz.prog
  go_enter Tryz.func102, Tryz.ntmps102
  go_upto_region 1 with fail
  have hx0 : Whole (w.alloc (.cells #[.slice A n c, .slice B m k] 25)) (w.heap.size) 25 [.slice A n c, .slice B m k] := (Whole.new_ w 25 [.slice A n c, .slice B m k])
  have hbl : Below w.heap.size w (w.alloc (.cells #[.slice A n c, .slice B m k] 25)) := (below1 w (.cells #[.slice A n c, .slice B m k] 25))
  have hsz : w.heap.size + 1 ≤ ((w.alloc (.cells #[.slice A n c, .slice B m k] 25))).heap.size := by simp
  obtain ⟨W0, gW0⟩ : ∃ z, (w.alloc (.cells #[.slice A n c, .slice B m k] 25)) = z := ⟨_, rfl⟩
  rw [gW0] at hx0 hbl hsz
  obtain ⟨b0, gb0⟩ : ∃ z, w.heap.size = z := ⟨_, rfl⟩
  rw [gb0] at hx0
  have HX0 := Lib.hid hx0
  have HB0 := Lib.hid hbl
  have HS0 := Lib.hid hsz
  have Gb0 := Lib.hid gb0
  have Lb0 : RowKit.Hid (w.heap.size ≤ b0) := Lib.hid (by omega)
  rw [gW0, gb0]
  clear gW0 hbl hsz hx0 gb0
  have HDb := Lib.hid ((HDa.out.bl HB0.out).al (.map #[] 0))
  have HX1 := Lib.hid (HX0.out.al (.map #[] 0))
  have HB1 := Lib.hid (bel_al HB0.out (.map #[] 0))
  have HM1 : RowKit.Hid (MapF (W0.alloc (.map #[] 0)) keyI W0.heap.size 0 (plcV L 0)) := Lib.hid (by rw [plcV_nil]; exact MapF.made)
  have hbm0 : b0 < W0.heap.size := HX0.out.lt
  have hbm1 : W0.heap.size < (W0.alloc (.map #[] 0)).heap.size := by simp
  have hbm2 : w.heap.size ≤ b0 := Lb0.out
  have c0 := HX1.out.cell (i := 0) rfl
  have c1 := HX1.out.cell (i := 1) rfl
  go_wp2_with fail
  clear hmm c0 c1
  obtain ⟨W1, gW1⟩ : ∃ z, W0.alloc (.map #[] 0) = z := ⟨_, rfl⟩
  obtain ⟨bm, gbm⟩ : ∃ z, W0.heap.size = z := ⟨_, rfl⟩
  rw [gW1] at HDb HX1 HB1 HM1 hbm1 ⊢
  rw [gbm] at HM1 hbm0 hbm1 ⊢
  clear gW1 gbm HX0 HB0 HS0
  refine (HLb.out _ HDb.out).mono ?_
  rintro e w3 ⟨gl, rfl, hol, hb3⟩
  obtain ⟨lo, glo⟩ : ∃ z, w3.heap.size = z := ⟨_, rfl⟩
  have HX3 := Lib.hid (HX1.out.bl hb3)
  have HM3 := Lib.hid (HM1.out.bl hb3)
  have HB3 := Lib.hid (bel_bl HB1.out hb3)
  have Hgl : RowKit.Hid (bm < gl ∧ gl < lo) := Lib.hid (by have h1 := own_lt hol rfl; have h2 : W1.heap.size ≤ gl ∧ gl < w3.heap.size := h1; omega)
  have Hbm : RowKit.Hid (b0 < bm ∧ bm < lo) := Lib.hid (by have := Hgl.out; omega)
  have Hb0 : RowKit.Hid (w.heap.size ≤ b0) := Lib.hid hbm2
  have Hlo : RowKit.Hid (lo = w3.heap.size) := Lib.hid glo.symm
  have HOl : RowKit.Hid (RdS w3 w3.heap.size 1 (some ⟨gl, 0, none⟩) n n (rowsV n1 L)) := Lib.hid (own_rds hol)
  have HK3 : RowKit.Hid (Kept (fun i => i = bm ∨ lo ≤ i) w3 w3) := Lib.hid (Kept.refl _ _)
  have HP3 : RowKit.Hid (PtIn w3 lo none 0 0 []) := Lib.hid (RowsIn.nil_ _ _)
  clear hol hb3 HDb HX1 HB1 HM1 hbm0 hbm1 hbm2 HDa HLb glo
  go_wp2
  go_loopw [3, 12] (fun sl si wr => ∃ (j : Nat) (A2 : Option Addr) (c2 : Nat) (X : List (Rw I2)), j ≤ n ∧ si = .int .i64 j ∧ sl = .slice A2 (rk L j) c2 ∧ RowKit.Hid (Kept (fun i => i = bm ∨ lo ≤ i) w3 wr) ∧ RowKit.Hid (MapF wr keyI bm j (plcV L j)) ∧ RowKit.Hid (PtIn wr lo A2 (rk L j) c2 X) ∧ RowKit.Hid (X.map (·.2.2) = partsJ L (nmV Vs) j)) (fun _ si _ => n - (intOf si).toNat)
  case atStart => exact ⟨0, none, 0, [], by omega, rfl, rfl, HK3, HM3, HP3, Lib.hid rfl⟩
  case round =>
    clear HK3 HM3 HP3
    obtain ⟨j, A2, c2, X, hj, rfl, rfl, HK, HM, HP, HXm⟩ := hrel
    obtain ⟨wo, gwo⟩ : ∃ z, wr = z := ⟨_, rfl⟩
    rw [gwo] at HK HM HP ⊢
    clear gwo
    by_cases hjn : j < n
    · obtain ⟨v, hx⟩ : ∃ v, Vs[j]? = some v := ⟨_, List.getElem?_eq_getElem (by have := Hlv.out; omega)⟩
      have hnm : nmV Vs j = v.1 := by
        unfold nmV
        rw [List.getD_eq_getElem?_getD, List.getElem?_map, hx]
        rfl
      have hjL : j < L.length := by have := HLl.out; omega
      obtain ⟨l, hlj⟩ : ∃ l : Nat, L.getD j 0 = (l : Int) := ⟨(L.getD j 0).toNat, by have := (HLok.out j hjL).1; omega⟩
      have hlle : l ≤ j := by have := (HLok.out j hjL).2.1; omega
      have hcl : wo.cell? ⟨gl, j, none⟩ = some (.int .i64 (l : Int)) := by
        have h1 := rds_n1 HOl.out HLl.out hjn
        rw [hlj] at h1
        exact HK.out.cell h1 (by have := Hbm.out; have := Hgl.out; rintro (h | h) <;> (simp only at h; omega))
      obtain ⟨bb, off, rfl, hbB, hpl⟩ := HV.out.place vC_len (by decide) (by omega)
      have hbw := HB3.out
      have q0 := hpl j _ hx 0 _ rfl
      have q1 := hpl j _ hx 1 _ rfl
      have q2 := hpl j _ hx 2 _ rfl
      have q3 := hpl j _ hx 3 _ rfl
      have q4 := hpl j _ hx 4 _ rfl
      simp only [Addr.add_lit, Nat.add_zero] at q0 q1 q2 q3 q4
      have l0 := (hbw.cell (p := ⟨bb, off + j * 5, none⟩) hbB).trans q0
      have l1 := (hbw.cell (p := ⟨bb, off + j * 5 + 1, none⟩) hbB).trans q1
      have l2 := (hbw.cell (p := ⟨bb, off + j * 5 + 2, none⟩) hbB).trans q2
      have l3 := (hbw.cell (p := ⟨bb, off + j * 5 + 3, none⟩) hbB).trans q3
      have l4 := (hbw.cell (p := ⟨bb, off + j * 5 + 4, none⟩) hbB).trans q4
      clear hbw q0 q1 q2 q3 q4
      obtain ⟨⟨i1, i2⟩, ⟨rA, rn, rc, rL⟩, lb, at_⟩ := v
      replace hnm : nmV Vs j = (i1, i2) := hnm
      have q0 : w3.cell? ⟨bb, off + j * 5, none⟩ = some (.int .i64 i1) := l0
      have q1 : w3.cell? ⟨bb, off + j * 5 + 1, none⟩ = some (.int .i64 i2) := l1
      have Hbb : RowKit.Hid (bb < w.heap.size) := Lib.hid hbB
      clear l0 l1 l2 l3 l4 hx hbB hpl
      have hkj : rk L j ≤ j := by rw [rk]; have := List.countP_le_length (p := rootB L) (l := List.range j); simpa using this
      by_cases hlr : l = j
      · obtain rfl : j = l := hlr.symm
        have hb : rootB L j = true := by rw [rootB, hlj]; simp
        have hXN := parts_root HLok.out (nmV Vs) hjL hlj
        rw [hnm, ← HXm.out] at hXN
        have hlen := partsJ_up L (nmV Vs) X j HXm.out
        have hrs : rk L (j + 1) = rk L j + 1 := by rw [rk_succ, hb]; rfl
        have HrS := Lib.hid hrs
        have ht : ((j : Int) == j) = true := by simp
        obtain ⟨p, gp⟩ : ∃ z, rk L j = z := ⟨_, rfl⟩
        have HGp := Lib.hid gp
        have hwl := wf_nat j (by omega)
        have HMm := HM
        rw [gp] at HP hlen hrs hXN hkj
        rw [gp]
        go_upto_region 7 with fail
        refine wp_region_lit ?_
        refine wl_read (v := ?_) (some 20) rfl (by rfl) ?_ ?_
        rotate_left
        · go_simp; (try with_reducible rfl)
        simp only [Act.put, stA_, st0_, st1_]
        refine wl_read (v := ?_) (some 21) rfl (by rfl) ?_ ?_
        rotate_left
        · go_simp; (try with_reducible rfl)
        simp only [Act.put, stA_, st0_, st1_]
        refine wl_read (v := ?_) (some 22) rfl (by rfl) ?_ ?_
        rotate_left
        · go_simp; (try with_reducible rfl)
        simp only [Act.put, stA_, st0_, st1_]
        refine wl_read (v := ?_) (some 23) rfl (by rfl) ?_ ?_
        rotate_left
        · go_simp; (try with_reducible rfl)
        simp only [Act.put, stA_, st0_, st1_]
        have hcnt : j < maxLen := by unfold maxLen; omega
        refine wl_mapPut rfl _ _ _ rfl rfl HM.out Tryz.underlying130 hcnt hwl rfl rfl ?_
        intro w5 hm5 hg5
        have HM5 : RowKit.Hid (MapF w5 keyI bm (j + 1) (plcV L (j + 1))) := Lib.hid (plcV_put hb (by rw [gp]; exact hm5))
        have HK5 : RowKit.Hid (Kept (fun i => i = bm ∨ lo ≤ i) w3 w5) := Lib.hid (HK.out.trans ⟨hg5.os, hg5.tape, hg5.output, hg5.size, fun i hi hne => hg5.block i hi (fun q => hne (.inl (Option.some.inj q)))⟩)
        have HP5 : RowKit.Hid (PtIn w5 lo A2 p c2 X) := Lib.hid (HP.out.far hg5 (fun g q e => by have h1 := (HP.out.row.lt g e).1; have := Option.some.inj q; have := Hbm.out; omega) (fun x hxm g q e => by have h1 := ((HP.out.one x hxm).lt g e).1; have := Option.some.inj q; have := Hbm.out; omega))
        clear hm5 hg5 hcnt hwl HM HMm HK HP hcl
        simp only [Act.put, stA_, st0_, st1_]
        go_upto_region 8 with fail
        refine wp_region_lit ?_
        refine wl_read (v := ?_) (some 24) rfl (by rfl) ?_ ?_
        rotate_left
        · go_simp; (try with_reducible rfl)
        simp only [Act.put, stA_, st0_, st1_]
        refine wl_buildSlice (some 25) rfl (by rfl) 125 73 1 #[(0, .const (.slice none 0 0))] (by rfl) Tryz.underlying125 #[.slice none 0 0] (by kernel_rfl) ?_
        simp only [Act.put, stA_, st0_, st1_]
        have HL6 : RowKit.Hid (RdS (w5.alloc (.cells #[.slice none 0 0] 73)) (w5.alloc (.cells #[.slice none 0 0] 73)).heap.size 1 (some ⟨w5.heap.size, 0, none⟩) 1 1 [.slice none 0 0]) := Lib.hid (RdS.of_whole (cs := [.slice none 0 0]) (Whole.new_ _ _ _) rfl)
        obtain ⟨A3, c3, w6, hrun, hp6, hb6, hg6⟩ := (HP5.out.al (.cells #[.slice none 0 0] 73)).push_nil (P := Tryz.prog) 125 125 i2I _ Tryz.underlying125 hi2 hz02 hz12 hz22 rfl (by decide) (by omega) (by have := Hlo.out; have := HK5.out.size; simp; omega) _ _ _ HL6.out
        refine wl_run (some 26) rfl (by rfl) (exec_append (by rfl) (by rfl) (by rfl) hrun) ?_
        simp only [Act.put, stA_, st0_, st1_]
        have hlt6 : ∀ g, (Value.slice A2 p c2).ownBlock = some g → lo ≤ g := fun g e => (HP5.out.row.lt g e).1
        have HM6 := Lib.hid ((HM5.out.al (.cells #[.slice none 0 0] 73)).grown hg6 (fun q => by have := hlt6 bm q.symm; have := Hbm.out; omega))
        have HK6 : RowKit.Hid (Kept (fun i => i = bm ∨ lo ≤ i) w3 w6) := Lib.hid ((HK5.out.alloc (.cells #[.slice none 0 0] 73)).trans ⟨hg6.os, hg6.tape, hg6.output, hg6.size, fun i hi hne => hg6.block i hi (fun q => hne (.inr (hlt6 i q.symm)))⟩)
        have HP6 : RowKit.Hid (PtIn w6 lo A3 (p + 1) c3 (X ++ [(none, 0, [])])) := Lib.hid hp6
        clear hrun hp6 hb6 hg6 hlt6 HL6 HP5 HK5 HM5
        go_upto_region 9 with fail
        refine wp_region_lit ?_
        refine wl_read (v := ?_) (some 27) rfl (by rfl) ?_ ?_
        rotate_left
        · go_simp; (try with_reducible rfl)
        simp only [Act.put, stA_, st0_, st1_]
        refine wl_read (v := ?_) (some 28) rfl (by rfl) ?_ ?_
        rotate_left
        · go_simp; (try with_reducible rfl)
        simp only [Act.put, stA_, st0_, st1_]
        refine wl_mapGet rfl _ _ rfl rfl HM6.out Tryz.underlying130 (zero_intK _) (x := (j : Int)) (wf_nat j (by omega)) rfl ?_
        have hpl : (plcV L (j + 1) (j : Int)).getD (.int .i64 0) = .int .i64 (p : Int) := by
          unfold plcV
          rw [plcF_more (Nat.lt_succ_self j) hb, gp]
          rfl
        rw [hpl]
        simp only [Act.put, stA_, st0_, st1_]
        have hx : (X ++ [((none, 0, []) : Rw I2)])[p]? = some (none, 0, []) := by
          rw [← hlen, List.getElem?_append_right (Nat.le_refl _), Nat.sub_self]
          rfl
        have HXN : RowKit.Hid (∀ A8 c8, ((X ++ [((none, 0, []) : Rw I2)]).set p (A8, c8, [(i1, i2)])).map (·.2.2) = partsJ L (nmV Vs) (j + 1)) := Lib.hid (fun A8 c8 => by rw [map_set_, List.map_append, hXN]; rfl)
        have hpn : p < p + 1 := by omega
        obtain ⟨x, gx⟩ : ∃ z, ((none, 0, []) : Rw I2) = z := ⟨_, rfl⟩
        have hxl : x.2.2.length ≤ 1000000 := by rw [← gx]; simp
        have HGx : RowKit.Hid (x.2.2 = []) := Lib.hid (by rw [← gx])
        rw [gx] at hx HXN HP6
        obtain ⟨X2, gX2⟩ : ∃ z, X ++ [x] = z := ⟨_, rfl⟩
        rw [gX2] at hx HXN HP6
        clear gx gX2 hXN hlen hpl HXm hnm hlj hjL hb gp
        obtain ⟨wo, gwo⟩ : ∃ z, w6 = z := ⟨_, rfl⟩
        rw [gwo] at HM6 HK6 HP6 ⊢
        clear gwo
        have HR := HP6
        have HKo := HK6
        have HMo := HM6
        obtain ⟨n2, gn2⟩ : ∃ z, p + 1 = z := ⟨_, rfl⟩
        have HG2 := Lib.hid gn2
        rw [gn2] at HR hpn ⊢
        clear gn2 HP6 HK6 HM6
        obtain ⟨A2, gA2⟩ : ∃ z, A3 = z := ⟨_, rfl⟩
        obtain ⟨c2, gc2⟩ : ∃ z, c3 = z := ⟨_, rfl⟩
        rw [gA2, gc2] at HR ⊢
        clear gA2 gc2
        obtain ⟨X, gX⟩ : ∃ z, X2 = z := ⟨_, rfl⟩
        rw [gX] at HR HXN hx
        clear gX
        obtain ⟨g2, junk2, eA2, hg2, hw2, hc2, hf2, -⟩ := own_poke (i := 0) (y := x) (u := rwV x) rwC_len HR.out.row hx hpn (by decide) rfl
        subst eA2
        simp only [Nat.mul_one, Nat.add_zero] at hc2
        replace hc2 : wo.cell? ⟨g2, p, none⟩ = some (rwV x) := hc2
        have hxm := List.mem_of_getElem? hx
        have hob : ∀ i, some i = (rwV x).ownBlock → lo ≤ i := fun i hi => ((HR.out.one x hxm).lt i hi.symm).1
        have hg2b : some g2 ≠ (rwV x).ownBlock := fun q => own_two HR.out.row (HR.out.one x hxm) (by decide) rfl q.symm
        have HXo := Lib.hid (HKo.out.whole HX3.out (by have := Hbm.out; have := Hlo.out; rintro (h | h) <;> omega))
        have hDx : ∀ i : Nat, ¬ some b0 = (rwV x).ownBlock := fun i q => by have := hob b0 q; have := Hlo.out; have := HX3.out.lt; omega
        have hVo := HKo.out.cell (p := ⟨bb, off + j * 5, none⟩) q0 (by have := Hbm.out; have := Hlo.out; have := Hb0.out; have := Hbb.out; rintro (h | h) <;> (simp only at h; omega))
        have hVo1 := HKo.out.cell (p := ⟨bb, off + j * 5 + 1, none⟩) q1 (by have := Hbm.out; have := Hlo.out; have := Hb0.out; have := Hbb.out; rintro (h | h) <;> (simp only at h; omega))
        have hVb : ¬ some bb = (rwV x).ownBlock := fun q => by have := hob bb q; have := Hbm.out; have := Hlo.out; have := Hb0.out; have := Hbb.out; omega
        obtain ⟨xv, gxv⟩ : ∃ z, rwV x = z := ⟨_, rfl⟩
        have GX := Lib.hid gxv
        rw [gxv] at hc2 hob hg2b hDx hVb
        have ld0 : ∀ w', Kept (fun i => some i = xv.ownBlock) wo.drew w' → w'.cell? ⟨g2, p, none⟩ = some xv := fun w' h => h.cell (show wo.drew.cell? _ = _ from hc2) hg2b
        have ld1 : ∀ w', Kept (fun i => some i = xv.ownBlock) wo.drew w' → w'.cell? ⟨b0, 0, none⟩ = some (.slice (some ⟨bb, off, none⟩) n c) := fun w' h => h.cell (HXo.out.dr.cell (i := 0) rfl) (hDx 0)
        have ld2 : ∀ w', Kept (fun i => some i = xv.ownBlock) wo.drew w' → w'.cell? ⟨bb, off + j * 5, none⟩ = some (.int .i64 i1) := fun w' h => h.cell (show wo.drew.cell? _ = _ from hVo) hVb
        have ld3 : ∀ w', Kept (fun i => some i = xv.ownBlock) wo.drew w' → w'.cell? ⟨bb, off + j * 5 + 1, none⟩ = some (.int .i64 i2) := fun w' h => h.cell (show wo.drew.cell? _ = _ from hVo1) hVb
        have HXl : RowKit.Hid (x.2.2.length ≤ 1000000) := Lib.hid hxl
        have HPx : RowKit.Hid (X[p]? = some x) := Lib.hid hx
        have HKd := Lib.hid HKo.out.drew
        have HMd := Lib.hid HMo.out.dr
        have HRd := Lib.hid HR.out.dr
        have HOb : RowKit.Hid (∀ i, some i = xv.ownBlock → lo ≤ i) := Lib.hid hob
        clear hc2 hob hg2b hDx hVb hVo hVo1 hxm hw2 hf2 hx hxl HKo HMo HR HXo gxv
        go_upto_region 10 with fail
        refine wp_region_tail ((fun i => some i = xv.ownBlock)) [15] (by kernel_rfl) ?_
        apply wpT_next 0 (some 30) (by kernel_rfl)
        · rfl
        · rfl
        · kernel_rfl
        · kernel_rfl
        · kernel_rfl
        · exact fun _ _ _ _ h => h
        apply Exists.intro
        apply And.intro
        · apply yr_run; rfl; intro w' hw'; go_simp; (try with_reducible rfl)
        simp only [Act.put, stA_, st0_, st1_]
        apply wpT_next 1 (some 31) (by kernel_rfl)
        · rfl
        · rfl
        · kernel_rfl
        · kernel_rfl
        · kernel_rfl
        · exact fun _ _ _ _ h => h
        apply Exists.intro
        apply And.intro
        · apply yr_run; rfl; intro w' hw'; go_simp; (try with_reducible rfl)
        simp only [Act.put, stA_, st0_, st1_]
        apply wpT_next 2 (some 32) (by kernel_rfl)
        · rfl
        · rfl
        · kernel_rfl
        · kernel_rfl
        · kernel_rfl
        · exact fun _ _ _ _ h => h
        apply Exists.intro
        apply And.intro
        · apply yr_run; rfl; intro w' hw'; go_simp; (try with_reducible rfl)
        simp only [Act.put, stA_, st0_, st1_]
        apply wpT_next 3 (some 33) (by kernel_rfl)
        · rfl
        · rfl
        · kernel_rfl
        · kernel_rfl
        · kernel_rfl
        · exact fun _ _ _ _ h => h
        apply Exists.intro
        apply And.intro
        · apply yr_run; rfl; intro w' hw'; go_simp; (try with_reducible rfl)
        simp only [Act.put, stA_, st0_, st1_]
        apply wpT_next 4 (some 34) (by kernel_rfl)
        · rfl
        · rfl
        · kernel_rfl
        · kernel_rfl
        · kernel_rfl
        · exact fun _ _ _ _ h => h
        apply Exists.intro
        apply And.intro
        · apply yr_run; rfl; intro w' hw'; go_simp; (try with_reducible rfl)
        simp only [Act.put, stA_, st0_, st1_]
        apply wpT_next 5 (some 35) (by kernel_rfl)
        · rfl
        · rfl
        · kernel_rfl
        · kernel_rfl
        · kernel_rfl
        · exact fun _ _ _ _ h => h
        apply Exists.intro
        apply And.intro
        · apply yr_run; rfl; intro w' hw'; go_simp; (try with_reducible rfl)
        simp only [Act.put, stA_, st0_, st1_]
        apply wpT_next 6 (some 36) (by kernel_rfl)
        · rfl
        · rfl
        · kernel_rfl
        · kernel_rfl
        · kernel_rfl
        · exact fun _ _ _ _ h => h
        apply Exists.intro
        apply And.intro
        · apply yr_run; rfl; intro w' hw'; go_simp; (try with_reducible rfl)
        simp only [Act.put, stA_, st0_, st1_]
        apply wpT_next 7 (some 37) (by kernel_rfl)
        · rfl
        · rfl
        · kernel_rfl
        · kernel_rfl
        · kernel_rfl
        · exact fun _ _ _ _ h => h
        apply Exists.intro
        apply And.intro
        · apply yr_run; rfl; intro w' hw'; go_simp; (try with_reducible rfl)
        simp only [Act.put, stA_, st0_, st1_]
        apply wpT_next 8 (some 38) (by kernel_rfl)
        · rfl
        · rfl
        · kernel_rfl
        · kernel_rfl
        · kernel_rfl
        · exact fun _ _ _ _ h => h
        apply Exists.intro
        apply And.intro
        · apply yr_run; rfl; intro w' hw'; go_simp; (try with_reducible rfl)
        simp only [Act.put, stA_, st0_, st1_]
        apply wpT_next 9 (some 39) (by kernel_rfl)
        · rfl
        · rfl
        · kernel_rfl
        · kernel_rfl
        · kernel_rfl
        · exact fun _ _ _ _ h => h
        apply Exists.intro
        apply And.intro
        · apply yr_run; rfl; intro w' hw'; go_simp; (try with_reducible rfl)
        simp only [Act.put, stA_, st0_, st1_]
        apply wpT_next 10 (some 40) (by kernel_rfl)
        · rfl
        · rfl
        · kernel_rfl
        · kernel_rfl
        · kernel_rfl
        · exact fun _ _ _ _ h => h
        apply Exists.intro
        apply And.intro
        · apply yr_run; rfl; intro w' hw'; go_simp; (try with_reducible rfl)
        simp only [Act.put, stA_, st0_, st1_]
        apply wpT_next 11 (some 41) (by kernel_rfl)
        · rfl
        · rfl
        · kernel_rfl
        · kernel_rfl
        · kernel_rfl
        · exact fun _ _ _ _ h => h
        apply Exists.intro
        apply And.intro
        · apply yr_run; rfl; intro w' hw'; go_simp; (try with_reducible rfl)
        simp only [Act.put, stA_, st0_, st1_]
        apply wpT_run 12 (some 42)
        · rfl
        · rfl
        · kernel_rfl
        · rfl
        intro w' hw'
        refine ⟨.slice (some ⟨w'.heap.size, 0, none⟩) 1 1, w'.alloc (.cells (idC (i1, i2)).toArray 41), exec_buildSlice 73 41 1 #[(0, .tmp 41)] (by rfl) Tryz.underlying73 _ (by kernel_rfl), Kept.of_below (below1 _ _), ?_⟩
        have HL : RowKit.Hid (RdS (w'.alloc (.cells (idC (i1, i2)).toArray 41)) (w'.alloc (.cells (idC (i1, i2)).toArray 41)).heap.size 2 (some ⟨w'.heap.size, 0, none⟩) 1 1 (idC (i1, i2))) := Lib.hid (RdS.of_whole (Whole.new_ _ _ _) rfl)
        have HKe := Lib.hid (HKd.out.trans (Kept.of_below (bel_al hw' (.cells (idC (i1, i2)).toArray 41))))
        have HMe := Lib.hid ((HMd.out.bl hw').al (.cells (idC (i1, i2)).toArray 41))
        have HRe := Lib.hid ((HRd.out.bl hw').al (.cells (idC (i1, i2)).toArray 41))
        obtain ⟨W3, gW3⟩ : ∃ z, w'.alloc (.cells (idC (i1, i2)).toArray 41) = z := ⟨_, rfl⟩
        obtain ⟨g3, gg3⟩ : ∃ z, w'.heap.size = z := ⟨_, rfl⟩
        rw [gW3] at HL HKe HMe HRe ⊢
        rw [gg3] at HL ⊢
        clear hw' gW3 gg3 HKd HMd HRd
        simp only [Act.put, stA_, st0_, st1_]
        apply wpT_run 13 (some 43)
        · rfl
        · rfl
        · kernel_rfl
        · rfl
        intro w' hw'
        obtain ⟨A8, c8, w'', hrun, hb8, hg8, hk8⟩ := (HRe.out.bl hw').grow (P := Tryz.prog) HPx.out idC_len 73 73 i1I _ 16 Tryz.underlying73 hi1 hz01 hz11 hz21 rfl (by decide) (by decide) HXl.out (by decide) (by have := Hlo.out; have := HKe.out.size; have := hw'.size; omega) _ _ 1 (i1, i2) (HL.out.bl hw') (idC_one _)
        refine ⟨_, w'', exec_append (by rfl) (by rfl) (by rfl) (by rw [← GX.out]; exact hrun), ⟨hg8.os, hg8.tape, hg8.output, hg8.size, fun i hi hne => hg8.block i hi (by rw [GX.out]; exact hne)⟩, ?_⟩
        have hmb : some bm ≠ (rwV x).ownBlock := fun q => by have h1 := HOb.out bm (by rw [← GX.out]; exact q); have := Hbm.out; have := Hlo.out; omega
        have HM8 := Lib.hid (MapF.grown (HMe.out.bl hw') hg8 hmb)
        have hkk : Kept (fun i => i = bm ∨ lo ≤ i) w' w'' := ⟨hg8.os, hg8.tape, hg8.output, hg8.size, fun i hi hne => hg8.block i hi (fun q => hne (.inr (HOb.out i (by rw [← GX.out]; exact q))))⟩
        have HK8 := Lib.hid ((HKe.out.trans (Kept.of_below hw')).trans hkk)
        have Hk8 := Lib.hid hk8
        obtain ⟨W4, gW4⟩ : ∃ z, w'' = z := ⟨_, rfl⟩
        rw [gW4] at HM8 HK8 Hk8 ⊢
        obtain ⟨n8, gn8⟩ : ∃ z, (x.2.2 ++ [(i1, i2)]).length = z := ⟨_, rfl⟩
        have e8 : rwV (A8, c8, x.2.2 ++ [(i1, i2)]) = .slice A8 n8 c8 := by rw [← gn8]; rfl
        rw [e8] at Hk8 ⊢
        clear hw' hrun hb8 hg8 hk8 hmb hkk gW4 HL HKe HMe HRe e8 gn8
        simp only [Act.put, stA_, st0_, st1_]
        apply wpT_next 14 (some 44) (by kernel_rfl)
        · rfl
        · rfl
        · kernel_rfl
        · kernel_rfl
        · kernel_rfl
        · exact fun _ _ _ _ h => h
        apply Exists.intro
        apply And.intro
        · apply yr_run; rfl; intro w' hw'; go_simp; (try with_reducible rfl)
        simp only [Act.put, stA_, st0_, st1_]
        apply wpT_last 15
        · rfl
        · rfl
        · kernel_rfl
        · rfl
        · decide
        intro w' hw'
        obtain ⟨gq, eq, hloq, ⟨csq, hwq⟩, hcq, hfq, hMq⟩ := Hk8.out w' hw'
        obtain rfl : g2 = gq := by
          injection eq with eq
          injection eq
        refine ⟨w'.setCell ⟨g2, p, none⟩ (.slice A8 n8 c8), by (rw [← GX.out] at ld0; go_simp; first | done | exact rfl | exact ⟨rfl, rfl⟩), ?_⟩
        have HR9 := Lib.hid hMq
        have hkk : Kept (fun i => i = bm ∨ lo ≤ i) w' (w'.setCell ⟨g2, p, none⟩ (.slice A8 n8 c8)) := (Kept.refl _ w').setCell (.inl (.inr hloq)) (.slice A8 n8 c8)
        have HK9 := Lib.hid ((HK8.out.trans (Kept.of_below hw')).trans hkk)
        have HM9 : RowKit.Hid (MapF (w'.setCell ⟨g2, p, none⟩ (.slice A8 n8 c8)) keyI bm (j + 1) (plcV L (j + 1))) := Lib.hid ((HM8.out.bl hw').kept (S := fun i => i = g2) (Kept.setCell (S := fun i => i = g2) (p := ⟨g2, p, none⟩) (Kept.refl _ w') (.inl rfl) _) (by have := Hbm.out; have := Hlo.out; omega))
        obtain ⟨W7, gW7⟩ : ∃ z, w'.setCell ⟨g2, p, none⟩ (.slice A8 n8 c8) = z := ⟨_, rfl⟩
        rw [gW7] at HR9 HK9 HM9 ⊢
        clear hw' eq hloq hwq hcq hfq hMq hkk gW7 HM8 HK8 Hk8
        try simp only [Act.put, stA_, st0_, st1_]
        refine wpT_done (by kernel_rfl) ?_ _
        intro W8 hw8
        have HR10 := Lib.hid (HR9.out.bl hw8)
        have HK10 := Lib.hid (HK9.out.trans (Kept.of_below hw8))
        have HM10 := Lib.hid (HM9.out.bl hw8)
        clear hw8 HR9 HK9 HM9
        go_wp2
        go_roundw
        case rel => exact ⟨j + 1, some ⟨g2, 0, none⟩, c2, _, by omega, by go_num, by rw [HrS.out, HGp.out, HG2.out], HK10, HM10.out.mono (by omega) |> Lib.hid, (by rw [HrS.out, HGp.out, HG2.out]; exact HR10), Lib.hid (by rw [HGx.out]; exact HXN.out _ _)⟩
        case measure => simp [intOf]; omega
      · have hlt := parts_more HLok.out (nmV Vs) hjL hlj hlr
        obtain ⟨hl1, hb, hat, hXN⟩ := hlt
        have hbj : rootB L j = false := by
          rw [rootB, hlj]
          exact beq_eq_false_iff_ne.2 (by omega)
        have ht : ((l : Int) == (j : Int)) = false := beq_eq_false_iff_ne.2 (by omega)
        have hrs : rk L (j + 1) = rk L j := by rw [rk_succ, hbj]; rfl
        have HrS := Lib.hid hrs
        have hlen := partsJ_up L (nmV Vs) X j HXm.out
        obtain ⟨x, hx, hxr⟩ : ∃ x, X[rk L l]? = some x ∧ x.2.2 = partJ L (nmV Vs) j l := by
          have h1 := hat
          rw [← HXm.out, List.getElem?_map] at h1
          cases hq : X[rk L l]? with
          | none => rw [hq] at h1; cases h1
          | some x => rw [hq] at h1; exact ⟨x, rfl, Option.some.inj h1⟩
        have hpn : rk L l < rk L j := by have := (List.getElem?_eq_some_iff.1 hx).1; omega
        have hxl : x.2.2.length ≤ 1000000 := by
          rw [hxr, partJ, List.length_map]
          have h8 := List.length_filter_le (fun k => L.getD k 0 == (l : Int)) (List.range j)
          rw [List.length_range] at h8
          omega
        have hplc : (plcV L j (l : Int)).getD (.int .i64 0) = .int .i64 ((rk L l : Nat) : Int) := by
          unfold plcV
          rw [plcF_more hl1 hb]
          rfl
        obtain ⟨p, gp⟩ : ∃ z, rk L l = z := ⟨_, rfl⟩
        rw [gp] at hx hpn hplc hXN
        have HXN : RowKit.Hid (∀ A8 c8, (X.set p (A8, c8, x.2.2 ++ [(i1, i2)])).map (·.2.2) = partsJ L (nmV Vs) (j + 1)) := Lib.hid (fun A8 c8 => by rw [map_set_, hXN, HXm.out, ← hxr, hnm])
        go_upto_region 9 with fail
        refine wp_region_lit ?_
        refine wl_read (v := ?_) (some 27) rfl (by rfl) ?_ ?_
        rotate_left
        · go_simp; (try with_reducible rfl)
        simp only [Act.put, stA_, st0_, st1_]
        refine wl_read (v := ?_) (some 28) rfl (by rfl) ?_ ?_
        rotate_left
        · go_simp; (try with_reducible rfl)
        simp only [Act.put, stA_, st0_, st1_]
        refine wl_mapGet rfl _ _ rfl rfl HM.out Tryz.underlying130 (zero_intK _) (x := (l : Int)) (wf_nat l (by omega)) rfl ?_
        rw [hplc]
        simp only [Act.put, stA_, st0_, st1_]
        have HM6 : RowKit.Hid (MapF wo keyI bm j (plcV L (j + 1))) := Lib.hid (by rw [plcV_no hbj]; exact HM.out)
        have HR := HP
        have HKo := HK
        have HMo := HM6
        clear HM HM6 HP HK hplc gp hxr hat hXN hl1 hb hbj hrs hlen HXm hnm hlj hlr hlle hjL hcl ht
        obtain ⟨n2, gn2⟩ : ∃ z, rk L j = z := ⟨_, rfl⟩
        have HG2 := Lib.hid gn2
        rw [gn2] at HR hpn hkj ⊢
        clear gn2
        obtain ⟨g2, junk2, eA2, hg2, hw2, hc2, hf2, -⟩ := own_poke (i := 0) (y := x) (u := rwV x) rwC_len HR.out.row hx hpn (by decide) rfl
        subst eA2
        simp only [Nat.mul_one, Nat.add_zero] at hc2
        replace hc2 : wo.cell? ⟨g2, p, none⟩ = some (rwV x) := hc2
        have hxm := List.mem_of_getElem? hx
        have hob : ∀ i, some i = (rwV x).ownBlock → lo ≤ i := fun i hi => ((HR.out.one x hxm).lt i hi.symm).1
        have hg2b : some g2 ≠ (rwV x).ownBlock := fun q => own_two HR.out.row (HR.out.one x hxm) (by decide) rfl q.symm
        have HXo := Lib.hid (HKo.out.whole HX3.out (by have := Hbm.out; have := Hlo.out; rintro (h | h) <;> omega))
        have hDx : ∀ i : Nat, ¬ some b0 = (rwV x).ownBlock := fun i q => by have := hob b0 q; have := Hlo.out; have := HX3.out.lt; omega
        have hVo := HKo.out.cell (p := ⟨bb, off + j * 5, none⟩) q0 (by have := Hbm.out; have := Hlo.out; have := Hb0.out; have := Hbb.out; rintro (h | h) <;> (simp only at h; omega))
        have hVo1 := HKo.out.cell (p := ⟨bb, off + j * 5 + 1, none⟩) q1 (by have := Hbm.out; have := Hlo.out; have := Hb0.out; have := Hbb.out; rintro (h | h) <;> (simp only at h; omega))
        have hVb : ¬ some bb = (rwV x).ownBlock := fun q => by have := hob bb q; have := Hbm.out; have := Hlo.out; have := Hb0.out; have := Hbb.out; omega
        obtain ⟨xv, gxv⟩ : ∃ z, rwV x = z := ⟨_, rfl⟩
        have GX := Lib.hid gxv
        rw [gxv] at hc2 hob hg2b hDx hVb
        have ld0 : ∀ w', Kept (fun i => some i = xv.ownBlock) wo.drew w' → w'.cell? ⟨g2, p, none⟩ = some xv := fun w' h => h.cell (show wo.drew.cell? _ = _ from hc2) hg2b
        have ld1 : ∀ w', Kept (fun i => some i = xv.ownBlock) wo.drew w' → w'.cell? ⟨b0, 0, none⟩ = some (.slice (some ⟨bb, off, none⟩) n c) := fun w' h => h.cell (HXo.out.dr.cell (i := 0) rfl) (hDx 0)
        have ld2 : ∀ w', Kept (fun i => some i = xv.ownBlock) wo.drew w' → w'.cell? ⟨bb, off + j * 5, none⟩ = some (.int .i64 i1) := fun w' h => h.cell (show wo.drew.cell? _ = _ from hVo) hVb
        have ld3 : ∀ w', Kept (fun i => some i = xv.ownBlock) wo.drew w' → w'.cell? ⟨bb, off + j * 5 + 1, none⟩ = some (.int .i64 i2) := fun w' h => h.cell (show wo.drew.cell? _ = _ from hVo1) hVb
        have HXl : RowKit.Hid (x.2.2.length ≤ 1000000) := Lib.hid hxl
        have HPx : RowKit.Hid (X[p]? = some x) := Lib.hid hx
        have HKd := Lib.hid HKo.out.drew
        have HMd := Lib.hid HMo.out.dr
        have HRd := Lib.hid HR.out.dr
        have HOb : RowKit.Hid (∀ i, some i = xv.ownBlock → lo ≤ i) := Lib.hid hob
        clear hc2 hob hg2b hDx hVb hVo hVo1 hxm hw2 hf2 hx hxl HKo HMo HR HXo gxv
        go_upto_region 10 with fail
        refine wp_region_tail ((fun i => some i = xv.ownBlock)) [15] (by kernel_rfl) ?_
        apply wpT_next 0 (some 30) (by kernel_rfl)
        · rfl
        · rfl
        · kernel_rfl
        · kernel_rfl
        · kernel_rfl
        · exact fun _ _ _ _ h => h
        apply Exists.intro
        apply And.intro
        · apply yr_run; rfl; intro w' hw'; go_simp; (try with_reducible rfl)
        simp only [Act.put, stA_, st0_, st1_]
        apply wpT_next 1 (some 31) (by kernel_rfl)
        · rfl
        · rfl
        · kernel_rfl
        · kernel_rfl
        · kernel_rfl
        · exact fun _ _ _ _ h => h
        apply Exists.intro
        apply And.intro
        · apply yr_run; rfl; intro w' hw'; go_simp; (try with_reducible rfl)
        simp only [Act.put, stA_, st0_, st1_]
        apply wpT_next 2 (some 32) (by kernel_rfl)
        · rfl
        · rfl
        · kernel_rfl
        · kernel_rfl
        · kernel_rfl
        · exact fun _ _ _ _ h => h
        apply Exists.intro
        apply And.intro
        · apply yr_run; rfl; intro w' hw'; go_simp; (try with_reducible rfl)
        simp only [Act.put, stA_, st0_, st1_]
        apply wpT_next 3 (some 33) (by kernel_rfl)
        · rfl
        · rfl
        · kernel_rfl
        · kernel_rfl
        · kernel_rfl
        · exact fun _ _ _ _ h => h
        apply Exists.intro
        apply And.intro
        · apply yr_run; rfl; intro w' hw'; go_simp; (try with_reducible rfl)
        simp only [Act.put, stA_, st0_, st1_]
        apply wpT_next 4 (some 34) (by kernel_rfl)
        · rfl
        · rfl
        · kernel_rfl
        · kernel_rfl
        · kernel_rfl
        · exact fun _ _ _ _ h => h
        apply Exists.intro
        apply And.intro
        · apply yr_run; rfl; intro w' hw'; go_simp; (try with_reducible rfl)
        simp only [Act.put, stA_, st0_, st1_]
        apply wpT_next 5 (some 35) (by kernel_rfl)
        · rfl
        · rfl
        · kernel_rfl
        · kernel_rfl
        · kernel_rfl
        · exact fun _ _ _ _ h => h
        apply Exists.intro
        apply And.intro
        · apply yr_run; rfl; intro w' hw'; go_simp; (try with_reducible rfl)
        simp only [Act.put, stA_, st0_, st1_]
        apply wpT_next 6 (some 36) (by kernel_rfl)
        · rfl
        · rfl
        · kernel_rfl
        · kernel_rfl
        · kernel_rfl
        · exact fun _ _ _ _ h => h
        apply Exists.intro
        apply And.intro
        · apply yr_run; rfl; intro w' hw'; go_simp; (try with_reducible rfl)
        simp only [Act.put, stA_, st0_, st1_]
        apply wpT_next 7 (some 37) (by kernel_rfl)
        · rfl
        · rfl
        · kernel_rfl
        · kernel_rfl
        · kernel_rfl
        · exact fun _ _ _ _ h => h
        apply Exists.intro
        apply And.intro
        · apply yr_run; rfl; intro w' hw'; go_simp; (try with_reducible rfl)
        simp only [Act.put, stA_, st0_, st1_]
        apply wpT_next 8 (some 38) (by kernel_rfl)
        · rfl
        · rfl
        · kernel_rfl
        · kernel_rfl
        · kernel_rfl
        · exact fun _ _ _ _ h => h
        apply Exists.intro
        apply And.intro
        · apply yr_run; rfl; intro w' hw'; go_simp; (try with_reducible rfl)
        simp only [Act.put, stA_, st0_, st1_]
        apply wpT_next 9 (some 39) (by kernel_rfl)
        · rfl
        · rfl
        · kernel_rfl
        · kernel_rfl
        · kernel_rfl
        · exact fun _ _ _ _ h => h
        apply Exists.intro
        apply And.intro
        · apply yr_run; rfl; intro w' hw'; go_simp; (try with_reducible rfl)
        simp only [Act.put, stA_, st0_, st1_]
        apply wpT_next 10 (some 40) (by kernel_rfl)
        · rfl
        · rfl
        · kernel_rfl
        · kernel_rfl
        · kernel_rfl
        · exact fun _ _ _ _ h => h
        apply Exists.intro
        apply And.intro
        · apply yr_run; rfl; intro w' hw'; go_simp; (try with_reducible rfl)
        simp only [Act.put, stA_, st0_, st1_]
        apply wpT_next 11 (some 41) (by kernel_rfl)
        · rfl
        · rfl
        · kernel_rfl
        · kernel_rfl
        · kernel_rfl
        · exact fun _ _ _ _ h => h
        apply Exists.intro
        apply And.intro
        · apply yr_run; rfl; intro w' hw'; go_simp; (try with_reducible rfl)
        simp only [Act.put, stA_, st0_, st1_]
        apply wpT_run 12 (some 42)
        · rfl
        · rfl
        · kernel_rfl
        · rfl
        intro w' hw'
        refine ⟨.slice (some ⟨w'.heap.size, 0, none⟩) 1 1, w'.alloc (.cells (idC (i1, i2)).toArray 41), exec_buildSlice 73 41 1 #[(0, .tmp 41)] (by rfl) Tryz.underlying73 _ (by kernel_rfl), Kept.of_below (below1 _ _), ?_⟩
        have HL : RowKit.Hid (RdS (w'.alloc (.cells (idC (i1, i2)).toArray 41)) (w'.alloc (.cells (idC (i1, i2)).toArray 41)).heap.size 2 (some ⟨w'.heap.size, 0, none⟩) 1 1 (idC (i1, i2))) := Lib.hid (RdS.of_whole (Whole.new_ _ _ _) rfl)
        have HKe := Lib.hid (HKd.out.trans (Kept.of_below (bel_al hw' (.cells (idC (i1, i2)).toArray 41))))
        have HMe := Lib.hid ((HMd.out.bl hw').al (.cells (idC (i1, i2)).toArray 41))
        have HRe := Lib.hid ((HRd.out.bl hw').al (.cells (idC (i1, i2)).toArray 41))
        obtain ⟨W3, gW3⟩ : ∃ z, w'.alloc (.cells (idC (i1, i2)).toArray 41) = z := ⟨_, rfl⟩
        obtain ⟨g3, gg3⟩ : ∃ z, w'.heap.size = z := ⟨_, rfl⟩
        rw [gW3] at HL HKe HMe HRe ⊢
        rw [gg3] at HL ⊢
        clear hw' gW3 gg3 HKd HMd HRd
        simp only [Act.put, stA_, st0_, st1_]
        apply wpT_run 13 (some 43)
        · rfl
        · rfl
        · kernel_rfl
        · rfl
        intro w' hw'
        obtain ⟨A8, c8, w'', hrun, hb8, hg8, hk8⟩ := (HRe.out.bl hw').grow (P := Tryz.prog) HPx.out idC_len 73 73 i1I _ 16 Tryz.underlying73 hi1 hz01 hz11 hz21 rfl (by decide) (by decide) HXl.out (by decide) (by have := Hlo.out; have := HKe.out.size; have := hw'.size; omega) _ _ 1 (i1, i2) (HL.out.bl hw') (idC_one _)
        refine ⟨_, w'', exec_append (by rfl) (by rfl) (by rfl) (by rw [← GX.out]; exact hrun), ⟨hg8.os, hg8.tape, hg8.output, hg8.size, fun i hi hne => hg8.block i hi (by rw [GX.out]; exact hne)⟩, ?_⟩
        have hmb : some bm ≠ (rwV x).ownBlock := fun q => by have h1 := HOb.out bm (by rw [← GX.out]; exact q); have := Hbm.out; have := Hlo.out; omega
        have HM8 := Lib.hid (MapF.grown (HMe.out.bl hw') hg8 hmb)
        have hkk : Kept (fun i => i = bm ∨ lo ≤ i) w' w'' := ⟨hg8.os, hg8.tape, hg8.output, hg8.size, fun i hi hne => hg8.block i hi (fun q => hne (.inr (HOb.out i (by rw [← GX.out]; exact q))))⟩
        have HK8 := Lib.hid ((HKe.out.trans (Kept.of_below hw')).trans hkk)
        have Hk8 := Lib.hid hk8
        obtain ⟨W4, gW4⟩ : ∃ z, w'' = z := ⟨_, rfl⟩
        rw [gW4] at HM8 HK8 Hk8 ⊢
        obtain ⟨n8, gn8⟩ : ∃ z, (x.2.2 ++ [(i1, i2)]).length = z := ⟨_, rfl⟩
        have e8 : rwV (A8, c8, x.2.2 ++ [(i1, i2)]) = .slice A8 n8 c8 := by rw [← gn8]; rfl
        rw [e8] at Hk8 ⊢
        clear hw' hrun hb8 hg8 hk8 hmb hkk gW4 HL HKe HMe HRe e8 gn8
        simp only [Act.put, stA_, st0_, st1_]
        apply wpT_next 14 (some 44) (by kernel_rfl)
        · rfl
        · rfl
        · kernel_rfl
        · kernel_rfl
        · kernel_rfl
        · exact fun _ _ _ _ h => h
        apply Exists.intro
        apply And.intro
        · apply yr_run; rfl; intro w' hw'; go_simp; (try with_reducible rfl)
        simp only [Act.put, stA_, st0_, st1_]
        apply wpT_last 15
        · rfl
        · rfl
        · kernel_rfl
        · rfl
        · decide
        intro w' hw'
        obtain ⟨gq, eq, hloq, ⟨csq, hwq⟩, hcq, hfq, hMq⟩ := Hk8.out w' hw'
        obtain rfl : g2 = gq := by
          injection eq with eq
          injection eq
        refine ⟨w'.setCell ⟨g2, p, none⟩ (.slice A8 n8 c8), by (rw [← GX.out] at ld0; go_simp; first | done | exact rfl | exact ⟨rfl, rfl⟩), ?_⟩
        have HR9 := Lib.hid hMq
        have hkk : Kept (fun i => i = bm ∨ lo ≤ i) w' (w'.setCell ⟨g2, p, none⟩ (.slice A8 n8 c8)) := (Kept.refl _ w').setCell (.inl (.inr hloq)) (.slice A8 n8 c8)
        have HK9 := Lib.hid ((HK8.out.trans (Kept.of_below hw')).trans hkk)
        have HM9 : RowKit.Hid (MapF (w'.setCell ⟨g2, p, none⟩ (.slice A8 n8 c8)) keyI bm j (plcV L (j + 1))) := Lib.hid ((HM8.out.bl hw').kept (S := fun i => i = g2) (Kept.setCell (S := fun i => i = g2) (p := ⟨g2, p, none⟩) (Kept.refl _ w') (.inl rfl) _) (by have := Hbm.out; have := Hlo.out; omega))
        obtain ⟨W7, gW7⟩ : ∃ z, w'.setCell ⟨g2, p, none⟩ (.slice A8 n8 c8) = z := ⟨_, rfl⟩
        rw [gW7] at HR9 HK9 HM9 ⊢
        clear hw' eq hloq hwq hcq hfq hMq hkk gW7 HM8 HK8 Hk8
        try simp only [Act.put, stA_, st0_, st1_]
        refine wpT_done (by kernel_rfl) ?_ _
        intro W8 hw8
        have HR10 := Lib.hid (HR9.out.bl hw8)
        have HK10 := Lib.hid (HK9.out.trans (Kept.of_below hw8))
        have HM10 := Lib.hid (HM9.out.bl hw8)
        clear hw8 HR9 HK9 HM9
        go_wp2
        go_roundw
        case rel => exact ⟨j + 1, some ⟨g2, 0, none⟩, c2, _, by omega, by go_num, by rw [HrS.out, HG2.out], HK10, HM10.out.mono (by omega) |> Lib.hid, (by rw [HrS.out, HG2.out]; exact HR10), Lib.hid (HXN.out _ _)⟩
        case measure => simp [intOf]; omega
    · obtain rfl : n = j := by omega
      have HKf := HK
      go_wp2
      go_ret
      refine ⟨A2, c2, X, rfl, ?_, by rw [← HR0.out]; exact HXm.out, ?_⟩
      · exact ⟨own_lo HP.out.row (by have := HB3.out.size; have := Hlo.out; omega), HP.out.len, fun x hx => own_lo (HP.out.one x hx) (by have := HB3.out.size; have := Hlo.out; omega), HP.out.ne⟩
      · have h1 := HK.out
        have h2 := HB3.out
        have := Hbm.out
        have := Hb0.out
        have := Hlo.out
        exact h2.trans ⟨h1.os, h1.tape, h1.output, h1.size, fun i hi => h1.block i (Nat.lt_of_lt_of_le hi h2.size) (by have := h2.size; rintro (h | h) <;> omega)⟩
set_option maxRecDepth 100000 in
set_option maxHeartbeats 4000000 in
theorem count_any (A : Option Addr) (n c : Nat) (Vs : List VC) (B : Option Addr) (m k : Nat) (Es : List EC) (w : World) (h : DgIn w A n c Vs B m k Es) (hn : n ≤ 1000000) (hr : ∀ x ∈ Vs, x.2.1.2.1 ≤ 1000000) (hv : ∀ v ∈ Vs, ∀ d ∈ v.2.1.2.2.2, wfD d) :
    Calls Tryz.prog 93 #[.agg #[.slice A n c, .slice B m k]] w fun e w' => e = .returned (.int .i64 ((cntF (labF Vs) : Nat) : Int)) ∧ Below w.heap.size w w' := by
  have HDa := Lib.hid h
  have HC := Lib.hid (fun W h => parts_any A n c Vs B m k Es W h hn hr hv)
  obtain ⟨q, gq⟩ : ∃ z, cntF (labF Vs) = z := ⟨_, rfl⟩
  rw [gq] at HC ⊢
  clear h hr hv gq
  go_enter Tryz.func93, Tryz.ntmps93
  go_upto_region 1 with fail
  have hx0 : Whole (w.alloc (.cells #[.slice A n c, .slice B m k] 25)) (w.heap.size) 25 [.slice A n c, .slice B m k] := (Whole.new_ w 25 [.slice A n c, .slice B m k])
  have hbl : Below w.heap.size w (w.alloc (.cells #[.slice A n c, .slice B m k] 25)) := (below1 w (.cells #[.slice A n c, .slice B m k] 25))
  have hsz : w.heap.size + 1 ≤ ((w.alloc (.cells #[.slice A n c, .slice B m k] 25))).heap.size := by simp
  obtain ⟨W0, gW0⟩ : ∃ z, (w.alloc (.cells #[.slice A n c, .slice B m k] 25)) = z := ⟨_, rfl⟩
  rw [gW0] at hx0 hbl hsz
  obtain ⟨b0, gb0⟩ : ∃ z, w.heap.size = z := ⟨_, rfl⟩
  rw [gb0] at hx0
  have HX0 := Lib.hid hx0
  have HB0 := Lib.hid hbl
  have HS0 := Lib.hid hsz
  have Gb0 := Lib.hid gb0
  have Lb0 : RowKit.Hid (w.heap.size ≤ b0) := Lib.hid (by omega)
  rw [gW0, gb0]
  clear gW0 hbl hsz hx0 gb0
  have c0 := HX0.out.cell (i := 0) rfl
  have c1 := HX0.out.cell (i := 1) rfl
  go_wp2_with fail
  refine (HC.out _ (HDa.out.bl HB0.out)).mono ?_
  rintro e w3 ⟨A2, c2, X, rfl, hp, hX, hb3⟩
  have HB3 := Lib.hid (bel_bl HB0.out hb3)
  clear hp hX hb3 c0 c1
  go_wp2
  go_ret
  exact ⟨rfl, HB3.out⟩
end Go.Proofs.YtmkflebkifbpfaaGreat
/- The laws' types of the diagram layers: names, darts, vertices, edges, diagrams. -/
namespace Go.Proofs.YtmkflebkifbpfaaGreat
open Go.ChangeShapes Go.WideShapes Go.ChangeAt Go.RowKit
theorem wf64 {n : Int} (h : In64 n) : (Lit.int .i64 n).wf = true := by
  unfold In64 at h
  have e1 : IntKind.i64.min = -9223372036854775808 := rfl
  have e2 : IntKind.i64.max = 9223372036854775807 := rfl
  simp only [Lit.wf, e1, e2, Bool.and_eq_true]
  exact ⟨decide_eq_true h.1, decide_eq_true h.2⟩
def VOk (W : World) (v : VC) : Prop := SlOk 3 dC (fun _ x => In64 x.1 ∧ In64 x.2.1 ∧ In64 x.2.2) W v.2.1 ∧ v.2.2.1.size ≤ maxLen
def EOk (_ : World) (e : EC) : Prop := In64 e.1.1 ∧ In64 e.1.2 ∧ e.2.1.size ≤ maxLen
abbrev DgT := (Option Addr × Nat × Nat × List VC) × (Option Addr × Nat × Nat × List EC)
def DgOk (W : World) (d : DgT) : Prop := SlOk 5 vC VOk W d.1 ∧ SlOk 4 eC EOk W d.2
theorem DgOk.dg {W : World} {d : DgT} (h : DgOk W d) : DgIn W d.1.1 d.1.2.1 d.1.2.2.1 d.1.2.2.2 d.2.1 d.2.2.1 d.2.2.2.1 d.2.2.2.2 :=
  ⟨h.1.2.1, h.2.2.1, fun x hx => ⟨(h.1.2.2 x hx).1.1, by rw [dartsV_rows]; exact (h.1.2.2 x hx).1.2.1⟩⟩
theorem zero64 : In64 0 ∧ In64 1 := by unfold In64; omega
theorem DgOk.good {W : World} {d : DgT} (h : DgOk W d) : GoodD d.1.2.2.2 d.2.2.2.2 :=
  ⟨fun x hx y hy => by
    have h1 := (h.1.2.2 x hx).1.2.2 y hy
    exact ⟨wf64 h1.1, wf64 h1.2.1, wf64 h1.2.2⟩, fun e he => by
    have h1 := h.2.2.2 e he
    exact ⟨⟨wf64 h1.1, wf64 h1.2.1, wf64 zero64.1⟩, ⟨wf64 h1.1, wf64 h1.2.1, wf64 zero64.2⟩⟩, fun x hx => (h.1.2.2 x hx).2, fun e he => (h.2.2.2 e he).2.2⟩
theorem DgOk.max {W : World} {d : DgT} (h : DgOk W d) : d.1.2.1 ≤ maxLen ∧ d.2.2.1 ≤ maxLen := ⟨Nat.le_trans h.1.2.1.le h.1.1, Nat.le_trans h.2.2.1.le h.2.1⟩
end Go.Proofs.YtmkflebkifbpfaaGreat
/- Opening arguments by their types' shapes, with what they weigh: how long a slice can be that is handed in. -/
namespace Go.Proofs.YtmkflebkifbpfaaGreat
open Go.ChangeShapes Go.WideShapes Go.ChangeAt Go.RowKit Go.Deep
section
variable {H : Type} {P : Program} {α β : Type}
def Row1z (H : Type) (P : Program) (t : TypeId) (f : α → List Value) (p : World → α → Prop) : Prop :=
  ∀ (enc : TypeId × Value → H) (w : World) (held : Bool) (fuel : Nat) (cs : List Value) (x : DataW H × List MemPlace),
    DataW.trod enc P w 0 (fun _ => true) held fuel t cs = some x → (∀ n ∈ x.1.weights P t, n ≤ reachBytes) → ∃ a, cs = f a ∧ p w a
theorem Row1.z {t : TypeId} {f : α → List Value} {p : World → α → Prop} (h : Row1 H P t f p) : Row1z H P t f p := fun enc w held fuel cs x hx _ => h enc w held fuel cs x hx
theorem Row1z.map {t : TypeId} {f : α → List Value} {p : World → α → Prop} (h : Row1z H P t f p) (g : α → β) {f' : β → List Value} {p' : World → β → Prop} (hf : ∀ a, f a = f' (g a)) (hp : ∀ w a, p w a → p' w (g a)) : Row1z H P t f' p' := by
  intro enc w held fuel cs x hx hz
  obtain ⟨a, rfl, ha⟩ := h enc w held fuel cs x hx hz
  exact ⟨g a, hf a, hp w a ha⟩
def SlOkz (k b : Nat) (f : α → List Value) (p : World → α → Prop) (w : World) (s : Option Addr × Nat × Nat × List α) : Prop :=
  SlOk k f p w s ∧ s.2.2.1 * b ≤ reachBytes
end
def VOkz (W : World) (v : VC) : Prop := SlOkz 3 24 dC (fun _ x => In64 x.1 ∧ In64 x.2.1 ∧ In64 x.2.2) W v.2.1 ∧ v.2.2.1.size ≤ maxLen
def DgOkz (W : World) (d : DgT) : Prop := SlOkz 5 64 vC VOkz W d.1 ∧ SlOkz 4 40 eC EOk W d.2
theorem DgOkz.ok {W : World} {d : DgT} (h : DgOkz W d) : DgOk W d := ⟨⟨h.1.1.1, h.1.1.2.1, fun x hx => ⟨(h.1.1.2.2 x hx).1.1, (h.1.1.2.2 x hx).2⟩⟩, h.2.1⟩
end Go.Proofs.YtmkflebkifbpfaaGreat
/- The document's example of layer 6, and what is well formed. -/
namespace Go.Proofs.YtmkflebkifbpfaaGreat
open Go.RowKit
theorem Formed.small {A : Option Addr} {n c : Nat} {Vs : List VC} {B : Option Addr} {m k : Nat} {Es : List EC} {w : World} (hf : Formed Vs Es) (h : DgIn w A n c Vs B m k Es) : n ≤ 24 ∧ m ≤ 40 ∧ ∀ x ∈ Vs, x.2.1.2.1 ≤ 80 := by
  have h1 := h.v.rlen vC_len (by decide)
  have h2 := h.e.rlen eC_len (by decide)
  have h3 := hf.v24
  have h4 := hf.e40
  refine ⟨by omega, by omega, fun x hx => ?_⟩
  have h5 := (h.r x hx).2.dlen
  have h6 := hf.len
  have h7 : x.2.1.2.2.2.length ≤ (ringsOf Vs).length := by
    clear h1 h2 h3 h4 h5 h6 h hf
    induction Vs with
    | nil => cases hx
    | cons v r ih =>
      rw [ringsOf_cons, List.length_append]
      rcases List.mem_cons.1 hx with rfl | hx
      · omega
      · have := ih hx; omega
  omega
end Go.Proofs.YtmkflebkifbpfaaGreat
/- face.sigmas. -/
namespace Go.Proofs.YtmkflebkifbpfaaGreat
open Go.RowKit
/-- The next one round a vertex, of the first k darts of its ring. -/
def nxR (R : List D) : Nat → (D → Option D) → D → Option D
  | 0, f => f
  | k + 1, f => fun y => if y = R.getD k (0, 0, 0) then some (R.getD ((k + 1) % R.length) (0, 0, 0)) else nxR R k f y
def nxV : List VC → (D → Option D) → D → Option D
  | [], f => f
  | v :: r, f => nxV r (nxR v.2.1.2.2.2 v.2.1.2.2.2.length f)
def sigM (Vs : List VC) : D → Option D := nxV Vs (fun _ => none)
def opV (f : D → Option D) (y : D) : Option Value := (f y).map dV
theorem opV_put (f : D → Option D) (x z : D) : (fun y => if y = x then some (dV z) else opV f y) = opV (fun y => if y = x then some z else f y) := by
  funext y
  unfold opV
  by_cases h : y = x <;> simp [h]
set_option maxRecDepth 100000 in
set_option maxHeartbeats 4000000 in
theorem sigmas_any (A : Option Addr) (n c : Nat) (Vs : List VC) (B : Option Addr) (m k : Nat) (Es : List EC) (w : World) (h : DgIn w A n c Vs B m k Es) (hn : n ≤ 1000000) (hr : ∀ x ∈ Vs, x.2.1.2.1 ≤ 1000000) (hv : ∀ v ∈ Vs, ∀ d ∈ v.2.1.2.2.2, wfD d) :
    Calls Tryz.prog 99 #[.agg #[.slice A n c, .slice B m k]] w fun e w' => ∃ b q S, e = .returned (.map (some b)) ∧ MapD w' b q (opV (sigM Vs)) S ∧ q ≤ 1000000000000 ∧ w.heap.size ≤ b ∧ Below w.heap.size w w' := by
  have HV := Lib.hid h.v
  have HRg := Lib.hid h.r
  have Hlv := Lib.hid (h.v.rlen vC_len (by decide))
  have Hhv := Lib.hid hv
  have Hhr := Lib.hid hr
  obtain ⟨sg, gsg⟩ : ∃ z, sigM Vs = z := ⟨_, rfl⟩
  have HSg := Lib.hid gsg
  rw [gsg]
  clear h hv hr gsg
  have hmm := @run_makeMap Tryz.prog
  go_enter Tryz.func99, Tryz.ntmps99
  go_upto_region 1 with fail
  have hx0 : Whole (w.alloc (.cells #[.slice A n c, .slice B m k] 25)) (w.heap.size) 25 [.slice A n c, .slice B m k] := (Whole.new_ w 25 [.slice A n c, .slice B m k])
  have hbl : Below w.heap.size w (w.alloc (.cells #[.slice A n c, .slice B m k] 25)) := (below1 w (.cells #[.slice A n c, .slice B m k] 25))
  have hsz : w.heap.size + 1 ≤ ((w.alloc (.cells #[.slice A n c, .slice B m k] 25))).heap.size := by simp
  obtain ⟨W0, gW0⟩ : ∃ z, (w.alloc (.cells #[.slice A n c, .slice B m k] 25)) = z := ⟨_, rfl⟩
  rw [gW0] at hx0 hbl hsz
  obtain ⟨b0, gb0⟩ : ∃ z, w.heap.size = z := ⟨_, rfl⟩
  rw [gb0] at hx0
  have HX0 := Lib.hid hx0
  have HB0 := Lib.hid hbl
  have HS0 := Lib.hid hsz
  have Gb0 := Lib.hid gb0
  have Lb0 : RowKit.Hid (w.heap.size ≤ b0) := Lib.hid (by omega)
  rw [gW0, gb0]
  clear gW0 hbl hsz hx0 gb0
  have HMa : RowKit.Hid (∃ S, MapD (W0.alloc (.map #[] 0)) W0.heap.size (0 * 1000000) (opV (fun _ => none)) S) := Lib.hid ⟨[], show MapD _ _ _ (fun _ => none) _ from (MapD.made).mono (by omega)⟩
  have HBa := Lib.hid (bel_al HB0.out (.map #[] 0))
  have Hbl : RowKit.Hid (w.heap.size ≤ W0.heap.size) := Lib.hid HB0.out.size
  have c0 := (HX0.out.al (.map #[] 0)).cell (i := 0) rfl
  have HF0 : RowKit.Hid (sg = nxV (Vs.drop 0) (fun _ => none)) := Lib.hid (by rw [← HSg.out, List.drop_zero]; rfl)
  go_wp2
  clear c0 hmm
  obtain ⟨W2, gW2⟩ : ∃ z, W0.alloc (.map #[] 0) = z := ⟨_, rfl⟩
  obtain ⟨bm, gbm⟩ : ∃ z, W0.heap.size = z := ⟨_, rfl⟩
  rw [gW2] at HMa HBa ⊢
  rw [gbm] at HMa Hbl ⊢
  clear gW2 gbm HX0 HB0 HS0 HSg
  go_loopw [12] (fun si wr => ∃ (i : Nat) (f : D → Option D), i ≤ n ∧ si = .int .i64 i ∧ RowKit.Hid (Below w.heap.size w wr) ∧ RowKit.Hid (∃ S, MapD wr bm (i * 1000000) (opV f) S) ∧ RowKit.Hid (sg = nxV (Vs.drop i) f)) (fun si _ => n - (intOf si).toNat)
  case atStart => exact ⟨0, _, by omega, rfl, HBa, HMa, HF0⟩
  case round =>
    clear HBa HMa HF0
    obtain ⟨i, f, hi, rfl, HB, HM, HF⟩ := hrel
    obtain ⟨wo, gwo⟩ : ∃ z, wr = z := ⟨_, rfl⟩
    rw [gwo] at HB HM ⊢
    clear gwo
    by_cases hin : i < n
    · obtain ⟨v, hx⟩ : ∃ v, Vs[i]? = some v := ⟨_, List.getElem?_eq_getElem (by have := Hlv.out; omega)⟩
      have hdr : Vs.drop i = v :: Vs.drop (i + 1) := by
        rw [List.drop_eq_getElem_cons (List.getElem?_eq_some_iff.1 hx).1, (List.getElem?_eq_some_iff.1 hx).2]
      have hvm := List.mem_of_getElem? hx
      have hrg := HRg.out v hvm
      have hrn := Hhr.out v hvm
      have hwf := Hhv.out v hvm
      have hF := HF.out
      rw [hdr, nxV] at hF
      obtain ⟨bb, off, rfl, hbB, hpl⟩ := HV.out.place vC_len (by decide) (by omega)
      have hbw := HB.out
      have q0 := hpl i _ hx 0 _ rfl
      have q1 := hpl i _ hx 1 _ rfl
      have q2 := hpl i _ hx 2 _ rfl
      have q3 := hpl i _ hx 3 _ rfl
      have q4 := hpl i _ hx 4 _ rfl
      simp only [Addr.add_lit, Nat.add_zero] at q0 q1 q2 q3 q4
      have l0 := (hbw.cell (p := ⟨bb, off + i * 5, none⟩) hbB).trans q0
      have l1 := (hbw.cell (p := ⟨bb, off + i * 5 + 1, none⟩) hbB).trans q1
      have l2 := (hbw.cell (p := ⟨bb, off + i * 5 + 2, none⟩) hbB).trans q2
      have l3 := (hbw.cell (p := ⟨bb, off + i * 5 + 3, none⟩) hbB).trans q3
      have l4 := (hbw.cell (p := ⟨bb, off + i * 5 + 4, none⟩) hbB).trans q4
      clear hbw q0 q1 q2 q3 q4
      obtain ⟨⟨i1, i2⟩, ⟨rA, rn, rc, rL⟩, lb, at_⟩ := v
      replace hrn : rn ≤ 1000000 := hrn
      have HR : RowKit.Hid (RdS w w.heap.size 3 rA rn rc (dartsV rL)) := Lib.hid hrg.2
      have Hlr := Lib.hid HR.out.dlen
      have Hwf : RowKit.Hid (∀ d ∈ rL, wfD d) := Lib.hid hwf
      have HF1 : RowKit.Hid (sg = nxV (Vs.drop (i + 1)) (nxR rL rL.length f)) := Lib.hid hF
      have HBb := Lib.hid (bel_al HB.out (.cells #[.int .i64 i1, .int .i64 i2, .slice rA rn rc, .string lb, .int .i64 at_] 47))
      have HMb : RowKit.Hid (∃ S, MapD (wo.alloc (.cells #[.int .i64 i1, .int .i64 i2, .slice rA rn rc, .string lb, .int .i64 at_] 47)) bm (i * 1000000 + 0) (opV (nxR rL 0 f)) S) := Lib.hid (by obtain ⟨S, hS⟩ := HM.out; exact ⟨S, (hS.mono (by omega)).al _⟩)
      have HXb := Lib.hid (Whole.new2 (w := wo) (t := 47) (cs := [.int .i64 i1, .int .i64 i2, .slice rA rn rc, .string lb, .int .i64 at_]) rfl)
      have HLb : RowKit.Hid (w.heap.size ≤ wo.heap.size) := Lib.hid HB.out.size
      have HNb : RowKit.Hid (wo.heap.size ≠ bm) := Lib.hid (by obtain ⟨S, hS⟩ := HM.out; have := hS.lt; omega)
      have c2 := HXb.out.cell (i := 2) rfl
      clear hx hdr hvm hrg hwf hF hpl hbB HF HM
      go_wp2
      clear l0 l1 l2 l3 l4 HB c2
      obtain ⟨wa, gwa⟩ : ∃ z, wo.alloc (.cells #[.int .i64 i1, .int .i64 i2, .slice rA rn rc, .string lb, .int .i64 at_] 47) = z := ⟨_, rfl⟩
      obtain ⟨b5, gb5⟩ : ∃ z, wo.heap.size = z := ⟨_, rfl⟩
      rw [gwa] at HBb HMb HXb ⊢
      rw [gb5] at HXb HLb HNb ⊢
      clear gwa gb5
      go_loopw [19] (fun sj wr => ∃ j : Nat, j ≤ rn ∧ sj = .int .i64 j ∧ RowKit.Hid (Below w.heap.size w wr) ∧ RowKit.Hid (∃ S, MapD wr bm (i * 1000000 + j) (opV (nxR rL j f)) S) ∧ RowKit.Hid (Whole wr b5 47 [.int .i64 i1, .int .i64 i2, .slice rA rn rc, .string lb, .int .i64 at_])) (fun sj _ => rn - (intOf sj).toNat)
      case atStart => exact ⟨0, by omega, rfl, HBb, HMb, HXb⟩
      case round =>
        clear HBb HMb HXb
        obtain ⟨j, hj, rfl, HB, HM, HX⟩ := hrel
        obtain ⟨wi, gwi⟩ : ∃ z, wr = z := ⟨_, rfl⟩
        rw [gwi] at HB HM HX ⊢
        clear gwi
        by_cases hjr : j < rn
        · obtain ⟨b, of2, rfl, hb, hc⟩ := (HR.out.up HB.out HB.out.size).darts (by omega)
          have hjl : j < rL.length := by have := Hlr.out; omega
          obtain ⟨d1, d2, d3⟩ := hc j hjl
          obtain ⟨j2, gj2⟩ : ∃ z, (j + 1) % rn = z := ⟨_, rfl⟩
          have hj2 : j2 < rn := by rw [← gj2]; exact Nat.mod_lt _ (by omega)
          obtain ⟨f1, f2, f3⟩ := hc j2 (by have := Hlr.out; omega)
          have hwr1 : IntKind.i64.wrap ((j : Int) + 1) = (j : Int) + 1 := IntWalk.i64_in _ (by omega)
          have hmod : ((j : Int) + 1) % (rn : Int) = (j2 : Int) := by rw [← gj2, Int.natCast_emod, Int.natCast_add]; rfl
          have hmod2 : ((j : Int) + 1).tmod (rn : Int) = (j2 : Int) := by rw [Int.tmod_eq_emod_of_nonneg (by omega)]; exact hmod
          have hwr2 : IntKind.i64.wrap (j2 : Int) = (j2 : Int) := IntWalk.i64_in _ (by omega)
          have hrn0 : ((rn : Int) == 0) = false := beq_eq_false_iff_ne.2 (by omega)
          have hrn1 : ¬ rn = 0 := by omega
          have hnx : nxR rL (j + 1) f = fun y => if y = rL.getD j (0, 0, 0) then some (rL.getD j2 (0, 0, 0)) else nxR rL j f y := by
            rw [nxR, Hlr.out, gj2]
          have gx2 : rL[j] = rL.getD j (0, 0, 0) := by rw [List.getD_eq_getElem?_getD, List.getElem?_eq_getElem hjl]; rfl
          have hwx := Hwf.out (rL.getD j (0, 0, 0)) (by rw [← gx2]; exact List.getElem_mem hjl)
          obtain ⟨x, gx⟩ : ∃ v, rL.getD j (0, 0, 0) = v := ⟨_, rfl⟩
          obtain ⟨z, gz⟩ : ∃ v, rL.getD j2 (0, 0, 0) = v := ⟨_, rfl⟩
          rw [gx] at d1 d2 d3 hnx hwx
          rw [gz] at f1 f2 f3 hnx
          obtain ⟨x1, x2, x3⟩ := x
          obtain ⟨z1, z2, z3⟩ := z
          have Hnx := Lib.hid hnx
          have Hwx := Lib.hid hwx
          have HBc := Lib.hid (bel_al HB.out (.cells #[.int .i64 x1, .int .i64 x2, .int .i64 x3] 49))
          have HMc : RowKit.Hid (∃ S, MapD (wi.alloc (.cells #[.int .i64 x1, .int .i64 x2, .int .i64 x3] 49)) bm (i * 1000000 + j) (opV (nxR rL j f)) S) := Lib.hid (by obtain ⟨S, hS⟩ := HM.out; exact ⟨S, hS.al _⟩)
          have HXc := Lib.hid (HX.out.al (.cells #[.int .i64 x1, .int .i64 x2, .int .i64 x3] 49))
          have HDc := Lib.hid (Whole.new2 (w := wi) (t := 49) (cs := [.int .i64 x1, .int .i64 x2, .int .i64 x3]) rfl)
          have HF_ := Lib.hid (show ∀ W, Below wi.heap.size wi W → W.cell? ⟨b, of2 + j2 * 3, none⟩ = some (.int .i64 z1) ∧ W.cell? ⟨b, of2 + j2 * 3 + 1, none⟩ = some (.int .i64 z2) ∧ W.cell? ⟨b, of2 + j2 * 3 + 2, none⟩ = some (.int .i64 z3) from fun W hw => ⟨(hw.cell (p := ⟨b, of2 + j2 * 3, none⟩) (World.block_lt_of_cell? _ _ f1)).trans f1, (hw.cell (p := ⟨b, of2 + j2 * 3 + 1, none⟩) (World.block_lt_of_cell? _ _ f2)).trans f2, (hw.cell (p := ⟨b, of2 + j2 * 3 + 2, none⟩) (World.block_lt_of_cell? _ _ f3)).trans f3⟩)
          clear hc hb gx gx2 gz hjl hnx hwx gj2 HB HM HX f1 f2 f3
          go_upto_region 8 with fail
          clear d1 d2 d3
          obtain ⟨g1, g2, g3⟩ := HF_.out _ (below1 wi (.cells #[.int .i64 x1, .int .i64 x2, .int .i64 x3] 49))
          obtain ⟨wj, gwj⟩ : ∃ z, wi.alloc (.cells #[.int .i64 x1, .int .i64 x2, .int .i64 x3] 49) = z := ⟨_, rfl⟩
          obtain ⟨b7, gb7⟩ : ∃ z, wi.heap.size = z := ⟨_, rfl⟩
          rw [gwj] at HBc HMc HXc HDc g1 g2 g3 ⊢
          rw [gb7] at HDc ⊢
          clear gwj gb7 HF_
          have ld0 : ∀ w', Kept Nil_ wj.drew w' → w'.cell? ⟨b7, 0, none⟩ = some (.int .i64 x1) := fun w' h => h.nil_cell (HDc.out.dr.cell (i := 0) rfl)
          have ld1 : ∀ w', Kept Nil_ wj.drew w' → w'.cell? ⟨b7, 1, none⟩ = some (.int .i64 x2) := fun w' h => h.nil_cell (HDc.out.dr.cell (i := 1) rfl)
          have ld2 : ∀ w', Kept Nil_ wj.drew w' → w'.cell? ⟨b7, 2, none⟩ = some (.int .i64 x3) := fun w' h => h.nil_cell (HDc.out.dr.cell (i := 2) rfl)
          have ld3 : ∀ w', Kept Nil_ wj.drew w' → w'.cell? ⟨b5, 2, none⟩ = some (.slice (some ⟨b, of2, none⟩) rn rc) := fun w' h => h.nil_cell (HXc.out.dr.cell (i := 2) rfl)
          have ld4 : ∀ w', Kept Nil_ wj.drew w' → w'.cell? ⟨b, of2 + j2 * 3, none⟩ = some (.int .i64 z1) := fun w' h => h.nil_cell (show wj.drew.cell? _ = _ from g1)
          have ld5 : ∀ w', Kept Nil_ wj.drew w' → w'.cell? ⟨b, of2 + j2 * 3 + 1, none⟩ = some (.int .i64 z2) := fun w' h => h.nil_cell (show wj.drew.cell? _ = _ from g2)
          have ld6 : ∀ w', Kept Nil_ wj.drew w' → w'.cell? ⟨b, of2 + j2 * 3 + 2, none⟩ = some (.int .i64 z3) := fun w' h => h.nil_cell (show wj.drew.cell? _ = _ from g3)
          clear HDc g1 g2 g3
          refine wp_region_tail (Nil_) [12] (by kernel_rfl) ?_
          apply wpT_next 0 (some 24) (by kernel_rfl)
          · rfl
          · rfl
          · kernel_rfl
          · kernel_rfl
          · kernel_rfl
          · exact fun _ _ _ _ h => h
          apply Exists.intro
          apply And.intro
          · apply yr_run; rfl; intro w' hw'; go_simp; (try with_reducible rfl)
          simp only [Act.put, stA_, st0_, st1_]
          apply wpT_next 1 (some 25) (by kernel_rfl)
          · rfl
          · rfl
          · kernel_rfl
          · kernel_rfl
          · kernel_rfl
          · exact fun _ _ _ _ h => h
          apply Exists.intro
          apply And.intro
          · apply yr_run; rfl; intro w' hw'; go_simp; (try with_reducible rfl)
          simp only [Act.put, stA_, st0_, st1_]
          apply wpT_next 2 (some 26) (by kernel_rfl)
          · rfl
          · rfl
          · kernel_rfl
          · kernel_rfl
          · kernel_rfl
          · exact fun _ _ _ _ h => h
          apply Exists.intro
          apply And.intro
          · apply yr_run; rfl; intro w' hw'; go_simp; (try with_reducible rfl)
          simp only [Act.put, stA_, st0_, st1_]
          apply wpT_next 3 (some 27) (by kernel_rfl)
          · rfl
          · rfl
          · kernel_rfl
          · kernel_rfl
          · kernel_rfl
          · exact fun _ _ _ _ h => h
          apply Exists.intro
          apply And.intro
          · apply yr_run; rfl; intro w' hw'; go_simp; (try with_reducible rfl)
          simp only [Act.put, stA_, st0_, st1_]
          apply wpT_next 4 (some 28) (by kernel_rfl)
          · rfl
          · rfl
          · kernel_rfl
          · kernel_rfl
          · kernel_rfl
          · exact fun _ _ _ _ h => h
          apply Exists.intro
          apply And.intro
          · apply yr_run; rfl; intro w' hw'; go_simp; (try with_reducible rfl)
          simp only [Act.put, stA_, st0_, st1_]
          apply wpT_next 5 (some 29) (by kernel_rfl)
          · rfl
          · rfl
          · kernel_rfl
          · kernel_rfl
          · kernel_rfl
          · exact fun _ _ _ _ h => h
          apply Exists.intro
          apply And.intro
          · apply yr_run; rfl; intro w' hw'; go_simp; (try with_reducible rfl)
          simp only [Act.put, stA_, st0_, st1_]
          apply wpT_next 6 (some 30) (by kernel_rfl)
          · rfl
          · rfl
          · kernel_rfl
          · kernel_rfl
          · kernel_rfl
          · exact fun _ _ _ _ h => h
          apply Exists.intro
          apply And.intro
          · apply yr_run; rfl; intro w' hw'; go_simp; (try with_reducible rfl)
          simp only [Act.put, stA_, st0_, st1_]
          apply wpT_next 7 (some 31) (by kernel_rfl)
          · rfl
          · rfl
          · kernel_rfl
          · kernel_rfl
          · kernel_rfl
          · exact fun _ _ _ _ h => h
          apply Exists.intro
          apply And.intro
          · apply yr_run; rfl; intro w' hw'; go_simp; (try with_reducible rfl)
          simp only [Act.put, stA_, st0_, st1_]
          apply wpT_next 8 (some 32) (by kernel_rfl)
          · rfl
          · rfl
          · kernel_rfl
          · kernel_rfl
          · kernel_rfl
          · exact fun _ _ _ _ h => h
          apply Exists.intro
          apply And.intro
          · apply yr_run; rfl; intro w' hw'; go_simp; (try with_reducible rfl)
          simp only [Act.put, stA_, st0_, st1_]
          apply wpT_next 9 (some 33) (by kernel_rfl)
          · rfl
          · rfl
          · kernel_rfl
          · kernel_rfl
          · kernel_rfl
          · exact fun _ _ _ _ h => h
          apply Exists.intro
          apply And.intro
          · apply yr_run; rfl; intro w' hw'; go_simp; (try with_reducible rfl)
          simp only [Act.put, stA_, st0_, st1_]
          apply wpT_next 10 (some 34) (by kernel_rfl)
          · rfl
          · rfl
          · kernel_rfl
          · kernel_rfl
          · kernel_rfl
          · exact fun _ _ _ _ h => h
          apply Exists.intro
          apply And.intro
          · apply yr_run; rfl; intro w' hw'; go_simp; (try with_reducible rfl)
          simp only [Act.put, stA_, st0_, st1_]
          apply wpT_next 11 (some 35) (by kernel_rfl)
          · rfl
          · rfl
          · kernel_rfl
          · kernel_rfl
          · kernel_rfl
          · exact fun _ _ _ _ h => h
          apply Exists.intro
          apply And.intro
          · apply yr_run; rfl; intro w' hw'; go_simp; (try with_reducible rfl)
          simp only [Act.put, stA_, st0_, st1_]
          apply wpT_last 12
          · rfl
          · rfl
          · kernel_rfl
          · rfl
          · decide
          intro w' hw'
          have hcnt : i * 1000000 + j < maxLen := by unfold maxLen; omega
          obtain ⟨S, hS⟩ := HMc.out
          obtain ⟨w3, hrun, hm3, hg3⟩ := (hS.dr.bl hw').put (x := (x1, x2, x3)) Tryz.underlying118 hcnt Hwx.out (dV (z1, z2, z3))
          refine ⟨w3, exec_mapPut (by rfl) (by rfl) (by rfl) (by rfl) hrun, ?_⟩
          rw [opV_put] at hm3
          have HMs : RowKit.Hid (∃ S, MapD w3 bm (i * 1000000 + (j + 1)) (opV (nxR rL (j + 1) f)) S) := Lib.hid ⟨_, by rw [Hnx.out]; exact hm3.mono (by omega)⟩
          have HXs := Lib.hid ((HXc.out.dr.bl hw').grown hg3 (fun e => HNb.out (Option.some.inj e)))
          have HBs := Lib.hid (bel_grown (bel_bl (bel_dr HBc.out) hw') hg3 Hbl.out)
          clear hw' hrun hm3 hg3 hS hcnt HMc HXc HBc
          try simp only [Act.put, stA_, st0_, st1_]
          refine wpT_done (by kernel_rfl) ?_ _
          intro W8 hw8
          have HB8 := Lib.hid (bel_bl HBs.out hw8)
          have HX8 := Lib.hid (HXs.out.bl hw8)
          have HM8 : RowKit.Hid (∃ S, MapD W8 bm (i * 1000000 + (j + 1)) (opV (nxR rL (j + 1) f)) S) := Lib.hid (by obtain ⟨S, hS⟩ := HMs.out; exact ⟨S, hS.bl hw8⟩)
          clear hw8 HBs HXs HMs
          go_wp2
          go_roundw
          case rel => exact ⟨j + 1, by omega, by go_num, HB8, HM8, HX8⟩
          case measure => simp [intOf] <;> omega
        · obtain rfl : rn = j := by omega
          have HM2 : RowKit.Hid (∃ S, MapD wi bm ((i + 1) * 1000000) (opV (nxR rL rn f)) S) := Lib.hid (by obtain ⟨S, hS⟩ := HM.out; exact ⟨S, hS.mono (by omega)⟩)
          have HF2 : RowKit.Hid (sg = nxV (Vs.drop (i + 1)) (nxR rL rn f)) := Lib.hid (by rw [← Hlr.out]; exact HF1.out)
          clear HM HF1
          go_wp2
          go_roundw
          case rel => exact ⟨i + 1, _, by omega, by go_num, HB, HM2, HF2⟩
          case measure => simp [intOf] <;> omega
    · obtain rfl : n = i := by omega
      have hF := HF.out
      rw [List.drop_eq_nil_of_le (by have := Hlv.out; omega)] at hF
      replace hF : sg = f := hF
      subst hF
      go_wp2
      go_ret
      obtain ⟨S, hS⟩ := HM.out
      exact ⟨bm, _, S, rfl, hS, by omega, Hbl.out, HB.out⟩
end Go.Proofs.YtmkflebkifbpfaaGreat
