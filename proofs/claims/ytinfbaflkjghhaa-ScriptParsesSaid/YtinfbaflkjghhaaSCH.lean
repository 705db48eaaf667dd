/- Several texts in one. -/
import Derived.Test.YtinfbaflkjghhaaSCG
import Derived.Test.YtinfbaflkjghhaaSCF
import Derived.Test.YtinfbaflkjghhaaSCA
import Derived.Deep.CutBlock
/- The document's Whole. -/
set_option linter.unusedSimpArgs false
set_option linter.unusedVariables false
namespace Go.Proofs.Ytinfbaflkjghhaa
open Go.RowKit
set_option maxRecDepth 100000 in
set_option maxHeartbeats 8000000 in
theorem rwhole10_any (A : Option Addr) (n c : Nat) (B : List Nat) (w : World) (hl0 : B.length = n) (h : RdS w w.heap.size 1 A n c (rowsV f8 B)) (hn : n ≤ 90000) (hb : ∀ b ∈ B, b < 256) :
    Calls Try.prog 23 #[.slice A n c] w fun e w' => ∃ A1 k1, e = .returned (.tuple #[.agg #[.slice A1 (whV B).length k1], .int .i64 (whE B)]) ∧ w'.ownsRow w.heap.size 53 20 (.slice A1 (whV B).length k1) (whV B).length (rowsV opCells (whV B)) ∧ Below w.heap.size w w' := by
  have HT := Lib.hid (rtake10_any A n c B (w.alloc (.cells #[.slice none 0 0] 28)) hl0 (h.al _) hn hb)
  have HX0 : RowKit.Hid (Whole (w.alloc (.cells #[.slice none 0 0] 28)) w.heap.size 28 [.slice none 0 0]) := Lib.hid (Whole.new_ _ _ [_])
  have HB0 : RowKit.Hid (Below w.heap.size w (w.alloc (.cells #[.slice none 0 0] 28))) := Lib.hid (below1 _ _)
  have HV : RowKit.Hid (tkV B = (if okEd B = true then rdV B else []) ∧ tkE B = (if okEd B = true then 0 else 2) ∧ tkR B = (if okEd B = true then rdR B else B)) := Lib.hid ⟨rfl, rfl, rfl⟩
  clear h hb hn hl0
  go_enter Try.func23, Try.ntmps23
  go_upto_region 1 with fail
  obtain ⟨w0, gw0⟩ : ∃ z, w.alloc (.cells #[.slice none 0 0] 28) = z := ⟨_, rfl⟩
  obtain ⟨b2, gb2⟩ : ∃ z, w.heap.size = z := ⟨_, rfl⟩
  rw [gw0] at HT HX0 HB0 ⊢
  rw [gb2] at HX0 ⊢
  have Gb2 := Lib.hid gb2
  clear gw0 gb2
  obtain ⟨L, gL⟩ : ∃ z, tkV B = z := ⟨_, rfl⟩
  obtain ⟨x, gx⟩ : ∃ z, tkE B = z := ⟨_, rfl⟩
  obtain ⟨R, gR⟩ : ∃ z, tkR B = z := ⟨_, rfl⟩
  have HT1 : RowKit.Hid (Calls Try.prog 39 #[.slice A n c] w0 fun e w' => ∃ A1 k1 A2 k2 m, e = .returned (.tuple #[.agg #[.slice A1 L.length k1], .slice A2 m k2, .int .i64 x]) ∧ m = R.length ∧ w'.ownsRow w0.heap.size 53 20 (.slice A1 L.length k1) L.length (rowsV opCells L) ∧ Below w0.heap.size w0 w') := Lib.hid (by
    refine HT.out.mono ?_
    rintro e w' ⟨A1, k1, A2, k2, m, l, rfl, rfl, h2, h3, -, h5⟩
    rw [gL] at h3
    exact ⟨A1, k1, A2, k2, m, by rw [gL, gx], by rw [← gR]; exact h2, h3, h5⟩)
  rw [gL, gx, gR] at HV
  obtain ⟨l, gl⟩ : ∃ z, L.length = z := ⟨_, rfl⟩
  rw [gl] at HT1
  have Gl := Lib.hid gl
  clear HT gL gx gR gl
  go_upto_region 2 with (first
    | (go_at_call 39
       refine HT1.out.mono ?_
       rintro e w2 ⟨A1, k1, A2, k2, m, rfl, hm, ho, hb2⟩
       have Hm := Lib.hid hm
       have HX2 := Lib.hid ((HX0.out.bl hb2).al (.cells #[.slice A1 l k1] 28))
       have HO2 := Lib.hid (own_up ho (below1 w2 (.cells #[.slice A1 l k1] 28)))
       have HB2 := Lib.hid (bel_al (bel_bl HB0.out hb2) (.cells #[.slice A1 l k1] 28))
       have HY2 : RowKit.Hid (Whole (w2.alloc (.cells #[.slice A1 l k1] 28)) w2.heap.size 28 [.slice A1 l k1]) := Lib.hid (Whole.new_ _ _ [_])
       have Hsz := Lib.hid HB0.out.size
       clear ho hb2 hm))
  obtain ⟨w3, gw3⟩ : ∃ z, w2.alloc (.cells #[.slice A1 l k1] 28) = z := ⟨_, rfl⟩
  obtain ⟨b4, gb4⟩ : ∃ z, w2.heap.size = z := ⟨_, rfl⟩
  rw [gw3] at HX2 HO2 HB2 HY2 ⊢
  rw [gb4] at HY2 ⊢
  clear gw3 gb4 HX0 HB0
  have d0 := HY2.out.cell (i := 0) rfl
  have q0 := HX2.out.cell (i := 0) rfl
  have f0 := HX2.out.free 0
  have hb2l : w.heap.size ≤ b2 := Nat.le_of_eq Gb2.out
  have hno : okW B = false → ∃ A1 k1, Ending.returned (.tuple #[.agg #[.slice none 0 0], .int .i64 2]) = .returned (.tuple #[.agg #[.slice A1 (whV B).length k1], .int .i64 (whE B)]) ∧ (w3.setCell ⟨b2, 0, none⟩ (.slice none 0 0)).ownsRow w.heap.size 53 20 (.slice A1 (whV B).length k1) (whV B).length (rowsV opCells (whV B)) ∧ Below w.heap.size w (w3.setCell ⟨b2, 0, none⟩ (.slice none 0 0)) := fun hq => by
    have e1 : whV B = [] := by unfold whV; rw [hq]; rfl
    have e2 : whE B = 2 := by unfold whE; rw [hq]; rfl
    rw [e1, e2]
    exact ⟨none, 0, rfl, World.ownsRow_nil _ _ _ _, HB2.out.setCell (p := ⟨b2, 0, none⟩) hb2l _⟩
  have Hno := Lib.hid hno
  clear hno
  cases ho : okEd B with
  | false =>
    have hv := HV.out
    rw [ho] at hv
    obtain ⟨hL, hx, -⟩ := hv
    simp only [Bool.false_eq_true, if_false] at hL hx
    subst hx
    have hW : okW B = false := by unfold okW; rw [ho]; rfl
    have HP := Lib.hid (Hno.out hW)
    have HXz := Lib.hid (HX2.out.set_ 0 (.slice none 0 0))
    clear hW hL ho
    go_wp2
    exact ret_whole2 rfl b2 rfl rfl HXz.out Try.underlying28 rfl (by kernel_rfl) rfl HP.out
  | true =>
    have hv := HV.out
    rw [ho] at hv
    obtain ⟨hL, hx, hR⟩ := hv
    simp only [if_true] at hL hx hR
    subst hx
    by_cases hr : R = []
    · have hm0 : m = 0 := by rw [Hm.out, hr]; rfl
      have hW : okW B = true := by unfold okW; rw [ho, ← hR, hr]; rfl
      have e1 : whV B = L := by unfold whV; rw [hW, hL]; rfl
      have e2 : whE B = 0 := by unfold whE; rw [hW]; rfl
      have HP : RowKit.Hid (∃ A' k', Ending.returned (.tuple #[.agg #[.slice A1 l k1], .int .i64 0]) = .returned (.tuple #[.agg #[.slice A' (whV B).length k'], .int .i64 (whE B)]) ∧ (w3.setCell ⟨b2, 0, none⟩ (.slice A1 l k1)).ownsRow w.heap.size 53 20 (.slice A' (whV B).length k') (whV B).length (rowsV opCells (whV B)) ∧ Below w.heap.size w (w3.setCell ⟨b2, 0, none⟩ (.slice A1 l k1))) := Lib.hid (by
        rw [e1, e2, Gl.out]
        exact ⟨A1, k1, rfl, own_lo8 (own_cell_far HO2.out (own_ne HO2.out HX2.out (by decide)) _) Hsz.out, HB2.out.setCell (p := ⟨b2, 0, none⟩) hb2l _⟩)
      have HXz := Lib.hid (HX2.out.set_ 0 (.slice A1 l k1))
      subst hm0
      clear hW hL ho hR hr e1 e2
      go_wp2
      exact ret_whole2 rfl b2 rfl rfl HXz.out Try.underlying28 rfl (by kernel_rfl) rfl HP.out
    · have hm0 : 0 < m := by
        rw [Hm.out]
        exact List.length_pos_iff.2 hr
      have hm1 : (0 : Int) < (m : Int) := by omega
      have hW : okW B = false := by unfold okW; rw [ho, ← hR, decide_eq_false hr]; rfl
      have HP := Lib.hid (Hno.out hW)
      have HXz := Lib.hid (HX2.out.set_ 0 (.slice none 0 0))
      clear hW hL ho hR hr
      go_wp2
      exact ret_whole2 rfl b2 rfl rfl HXz.out Try.underlying28 rfl (by kernel_rfl) rfl HP.out
end Go.Proofs.Ytinfbaflkjghhaa
/- OpcodePuts' walk. -/
namespace Go.Proofs.Ytinfbaflkjghhaa
open Go.RowKit
theorem oput10_p (A0 : Option Addr) (m0 c0 : Nat) (B : List Nat) (A : Option Addr) (n c : Nat) (L : List OpT) (w : World) (hl : B.length = m0) (h0 : RdS w w.heap.size 1 A0 m0 c0 (rowsV f8 B)) (hB : m0 ≤ 90000) (h : RdS w w.heap.size 20 A n c (rowsV opCells L)) (hn : n ≤ 1000000) :
    Calls Try.prog 26 #[.slice A0 m0 c0, .agg #[.slice A n c]] w fun e w' => ∃ A' c', e = .returned (.tuple #[.slice A' (pE B L).length c', .int .i64 (mayE L)]) ∧ w'.ownsRow w.heap.size 5 1 (.slice A' (pE B L).length c') (pE B L).length (rowsV f8 (pE B L)) ∧ Below w.heap.size w w' := by
  subst hl
  exact oput_any A0 c0 B A n c L w h0 hB h hn
end Go.Proofs.Ytinfbaflkjghhaa
/- OpcodeRows' walk. -/
namespace Go.Proofs.Ytinfbaflkjghhaa
open Go.RowKit
abbrev ES := Option Addr × Nat × Nat × List OpT
def eSl (e : ES) : List Value := [.slice e.1 e.2.1 e.2.2.1]
/-- Two rows of one's own of unlike elements lie apart. -/
theorem own_apart {W : World} {lo lo' k k' n n' : Nat} {T T' : TypeId} {v v' : Value} {xs xs' : List Value} (h : W.ownsRow lo T k v n xs) (h' : W.ownsRow lo' T' k' v' n' xs') (hT : T ≠ T') : v.ownBlock = none ∨ v.ownBlock ≠ v'.ownBlock := by
  rcases h.2 with ⟨rfl, -⟩ | ⟨g, cap, cur, rfl, -, hg, -⟩
  · exact .inl rfl
  · refine .inr fun e => ?_
    rcases h'.2 with ⟨rfl, -⟩ | ⟨g', cap', cur', rfl, -, hg', -⟩
    · cases e
    · have e1 : g = g' := Option.some.inj e
      subst e1
      rw [hg] at hg'
      injection Option.some.inj hg' with e2 e3 e4
      exact hT e3
theorem own_grow {W W' : World} {lo lo' k k' n n' : Nat} {T T' : TypeId} {v v' : Value} {xs xs' : List Value} (h : W.ownsRow lo T k v n xs) (h' : W.ownsRow lo' T' k' v' n' xs') (hT : T ≠ T') (hg : W.grownBy W' v'.ownBlock) : W'.ownsRow lo T k v n xs := h.kept hg (own_apart h h' hT)
structure RwS (lo : Nat) (W : World) (vi : Value) (Ls : List ES) : Prop where
  row : W.ownsRow lo 28 1 vi Ls.length (rowsV eSl Ls)
  each : ∀ e ∈ Ls, W.ownsRow lo 53 20 (.slice e.1 e.2.1 e.2.2.1) e.2.1 (rowsV opCells e.2.2.2)
  may : ∀ e ∈ Ls, mayE e.2.2.2 = 0 ∧ e.2.1 ≤ 10
theorem RwS.up {lo : Nat} {W W' : World} {vi : Value} {Ls : List ES} (h : RwS lo W vi Ls) (hb : Below W.heap.size W W') : RwS lo W' vi Ls := ⟨own_up h.row hb, fun e he => own_up (h.each e he) hb, h.may⟩
end Go.Proofs.Ytinfbaflkjghhaa
/- Steps as bytes: numbers alone. -/
namespace Go.Proofs.Ytinfbaflkjghhaa
open Go.RowKit
abbrev H4 := Int × Int × Int × Int
def In4 (x : H4) : Prop := In64 x.1 ∧ In64 x.2.1 ∧ In64 x.2.2.1 ∧ In64 x.2.2.2
/-- The head of a step as bytes, and out of bytes. -/
def h4B (x : H4) : List Nat := be8 x.1 ++ (be8 x.2.1 ++ (be8 x.2.2.1 ++ be8 x.2.2.2))
def h4V (B : List Nat) : H4 := (num8 (B.take 8), num8 ((B.drop 8).take 8), num8 ((B.drop 16).take 8), num8 ((B.drop 24).take 8))
theorem h4B_len (x : H4) : (h4B x).length = 32 := by simp [h4B, be8_len]
theorem h4B_lt (x : H4) : ∀ b ∈ h4B x, b < 256 := fun b hb => by
  unfold h4B at hb
  simp only [List.mem_append] at hb
  rcases hb with h | h | h | h <;> exact be8_lt _ b h
abbrev SD := H4 × List OpT
def sdE (x : SD) : Int := if x.2 = [] then 0 else mayE x.2
def sdB (x : SD) : List Nat := h4B x.1 ++ (if x.2 = [] then [] else edB x.2)
/-- What Put tells. -/
def sdP (x : SD) : List Nat := if sdE x = 0 then sdB x else []
def okS (B : List Nat) : Bool := decide (B.length = 32) || (decide (32 < B.length) && okW (B.drop 32))
def zS : SD := ((0, 0, 0, 0), [])
def tkS (B : List Nat) : SD := if okS B = true then (h4V B, whV (B.drop 32)) else zS
def tkSE (B : List Nat) : Int := if okS B = true then 0 else 240
theorem okW_nil : okW [] = false := by
  cases h : okW [] with
  | false => rfl
  | true =>
    obtain ⟨L, -, h2⟩ := okW_is.1 h
    have := edB_pos L
    rw [← h2] at this
    simp at this
theorem whV_nil : whV [] = [] := by unfold whV; rw [okW_nil]; rfl
theorem sdB_lt (x : SD) : ∀ b ∈ sdB x, b < 256 := fun b hb => by
  unfold sdB at hb
  rcases List.mem_append.1 hb with h | h
  · exact h4B_lt _ b h
  · split at h
    · cases h
    · exact edB_lt _ b h
theorem sdB_len {x : SD} (h : sdE x = 0) : 32 ≤ (sdB x).length ∧ (sdB x).length ≤ 171 := by
  unfold sdB
  rw [List.length_append, h4B_len]
  unfold sdE at h
  split
  · simp
  · rename_i hx
    rw [if_neg hx] at h
    have := edB_len h
    omega
theorem num8_in (L : List Nat) : In64 (num8 L) := by
  unfold num8 In64
  rw [IntKind.wrap_i64]
  omega
theorem tkS_in (B : List Nat) : In4 (tkS B).1 := by
  unfold tkS
  split
  · exact ⟨num8_in _, num8_in _, num8_in _, num8_in _⟩
  · unfold zS In4 In64; simp
/-- A step, and where its operations lie. -/
abbrev StT := H4 × ES
def stC (s : StT) : List Value := [.int .i64 s.1.1, .int .i64 s.1.2.1, .int .i64 s.1.2.2.1, .int .i64 s.1.2.2.2, .slice s.2.1 s.2.2.1 s.2.2.2.1]
theorem stC_len (s : StT) : (stC s).length = 5 := rfl
theorem stC_one (s : StT) : ∀ u ∈ stC s, u.oneCell' = true := by simp [stC, Value.oneCell']
def sdT (s : StT) : SD := (s.1, s.2.2.2.2)
end Go.Proofs.Ytinfbaflkjghhaa
/- Put: a step laid down, and the document's own. -/
namespace Go.Proofs.Ytinfbaflkjghhaa
open Go.RowKit
def h4G (x : H4) (k : Nat) : Int := match k with | 0 => x.1 | 1 => x.2.1 | 2 => x.2.2.1 | _ => x.2.2.2
theorem h4_get (k1 k2 k3 k4 : Int) (k : Nat) (hk : k < 4) : (#[.int .i64 k1, .int .i64 k2, .int .i64 k3, .int .i64 k4] : Array Value)[k]? = some (.int .i64 (h4G (k1, k2, k3, k4) k)) := by
  have : k = 0 ∨ k = 1 ∨ k = 2 ∨ k = 3 := by omega
  rcases this with rfl | rfl | rfl | rfl <;> rfl
theorem h4_take (x : H4) (k : Nat) (hk : k < 4) : (h4B x).take (8 * k) ++ be8 (h4G x k) = (h4B x).take (8 * (k + 1)) := by
  obtain ⟨a, b, c, d⟩ := x
  have l8 : ∀ y : Int, (be8 y).length = 8 := be8_len
  have t8 : ∀ (y : Int) (n : Nat), 8 ≤ n → (be8 y).take n = be8 y := fun y n h => List.take_of_length_le (by rw [l8]; exact h)
  have : k = 0 ∨ k = 1 ∨ k = 2 ∨ k = 3 := by omega
  rcases this with rfl | rfl | rfl | rfl <;> simp [h4B, h4G, List.take_append, l8, t8]
theorem size_int23 (W : World) : (sizeOf 3).run Try.prog W = .ok 1 W := by
  have h : (Try.prog.info? 3).map (·.size) = some 1 := by kernel_rfl
  cases hq : Try.prog.info? 3 with
  | none => simp [hq] at h
  | some i => simp [hq] at h; simp [sizeOf, typeInfo, hq, h]
theorem idx_a4 (cs : Array Value) (j : Nat) (hj : j < 4) (x : Int) (hx : cs[j]? = some (.int .i64 x)) (W : World) : (Instr.index 54 (.agg cs) (.int .i64 (j : Int))).run Try.prog W = .ok (.int .i64 x) W := by
  simp only [Instr.index, asIntOf, Sem.run_bind, Sem.run_pure, Result.andThen_ok, run_underlying (Try.underlying54)]
  rw [if_pos ⟨by omega, by omega⟩]
  simp only [Sem.run_bind, size_int23, Result.andThen_ok, part, Int.toNat_natCast, Nat.mul_one]
  have ha : (isAgg 3).run Try.prog W = .ok false W := by
    unfold isAgg
    rw [Sem.run_bind, run_underlying Try.underlying3 W]
    rfl
  simp [ha, hx]
/-- Bytes of the call's own. -/
def GivesB (w : World) (X : List Nat) (m : Nat) (e : Ending) (w' : World) : Prop :=
  ∃ A c, e = .returned (.slice A m c) ∧ w'.ownsRow w.heap.size 5 1 (.slice A m c) m (rowsV f8 X) ∧ Below w.heap.size w w'
theorem num_b (A : Option Addr) (n c : Nat) (L : List Nat) (x : Int) (w : World) (hl : L.length = n) (h : RdS w w.heap.size 1 A n c (rowsV f8 L)) (hn : n ≤ 900000) (m : Nat) (hm : n + 8 = m) : Calls Try.prog 25 #[.slice A n c, .int .i64 x] w (GivesB w (L ++ be8 x) m) := by
  subst hl hm
  refine (num_any A c L x w h hn).mono ?_
  rintro e w' ⟨A', c', rfl, -, -, h3, h4⟩
  rw [List.length_append, be8_len] at h3
  exact ⟨A', c', by rw [List.length_append, be8_len], h3, h4⟩
def GivesP (w : World) (x : SD) (e : Ending) (w' : World) : Prop :=
  ∃ A c, e = .returned (.tuple #[.slice A (sdP x).length c, .int .i64 (sdE x)]) ∧ w'.ownsRow w.heap.size 5 1 (.slice A (sdP x).length c) (sdP x).length (rowsV f8 (sdP x)) ∧ Below w.heap.size w w'
theorem sdP_nil (a : H4) : sdP (a, []) = h4B a ∧ sdE (a, []) = 0 := ⟨by unfold sdP sdE sdB; rw [if_pos rfl, if_pos rfl, if_pos rfl, List.append_nil], rfl⟩
theorem sdP_ops (a : H4) {L : List OpT} (h : L ≠ []) : sdP (a, L) = pE (h4B a) L ∧ sdE (a, L) = mayE L := by
  have e : sdE (a, L) = mayE L := by unfold sdE; rw [if_neg h]
  refine ⟨?_, e⟩
  unfold sdP pE sdB
  rw [e, if_neg h]
set_option maxRecDepth 100000 in
set_option maxHeartbeats 4000000 in
theorem put23_any (s : StT) (w : World) (h : RdS w w.heap.size 20 s.2.1 s.2.2.1 s.2.2.2.1 (rowsV opCells s.2.2.2.2)) (hn : s.2.2.1 ≤ 1000000) :
    Calls Try.prog 13 #[.agg (stC s).toArray] w (GivesP w (sdT s)) := by
  obtain ⟨⟨k1, k2, k3, k4⟩, A, n, c, L⟩ := s
  show Calls Try.prog 13 #[.agg #[.int .i64 k1, .int .i64 k2, .int .i64 k3, .int .i64 k4, .slice A n c]] w (GivesP w ((k1, k2, k3, k4), L))
  replace hn : n ≤ 1000000 := hn
  replace h : RdS w w.heap.size 20 A n c (rowsV opCells L) := h
  have HR0 := Lib.hid (h.al (.cells #[.int .i64 k1, .int .i64 k2, .int .i64 k3, .int .i64 k4, .slice A n c] 30))
  have h_l := Lib.hid (h.rlen opCells_len' (by decide))
  have HX0 : RowKit.Hid (Whole (w.alloc (.cells #[.int .i64 k1, .int .i64 k2, .int .i64 k3, .int .i64 k4, .slice A n c] 30)) w.heap.size 30 [.int .i64 k1, .int .i64 k2, .int .i64 k3, .int .i64 k4, .slice A n c]) := Lib.hid (Whole.new_ _ _ [.int .i64 k1, .int .i64 k2, .int .i64 k3, .int .i64 k4, .slice A n c])
  have HB0 : RowKit.Hid (Below w.heap.size w (w.alloc (.cells #[.int .i64 k1, .int .i64 k2, .int .i64 k3, .int .i64 k4, .slice A n c] 30))) := Lib.hid (below1 _ _)
  clear h
  go_enter Try.func13, Try.ntmps13
  have x0 := HX0.out.cell (i := 0) rfl
  have x1 := HX0.out.cell (i := 1) rfl
  have x2 := HX0.out.cell (i := 2) rfl
  have x3 := HX0.out.cell (i := 3) rfl
  go_upto_region 3 with fail
  obtain ⟨W0, gW0⟩ : ∃ z, w.alloc (.cells #[.int .i64 k1, .int .i64 k2, .int .i64 k3, .int .i64 k4, .slice A n c] 30) = z := ⟨_, rfl⟩
  obtain ⟨b0, gb0⟩ : ∃ z, w.heap.size = z := ⟨_, rfl⟩
  rw [gW0] at HR0 HX0 HB0 ⊢
  rw [gb0] at HX0 ⊢
  clear gW0 gb0 x0 x1 x2 x3
  go_loopw [4, 16] (fun v i wr => ∃ (k m : Nat) (A1 : Option Addr) (c1 : Nat), k ≤ 4 ∧ m = 8 * k ∧ v = .slice A1 m c1 ∧ i = .int .i64 (k : Int) ∧ RowKit.Hid (wr.ownsRow w.heap.size 5 1 (.slice A1 m c1) m (rowsV f8 ((h4B (k1, k2, k3, k4)).take m))) ∧ RowKit.Hid (RdS wr wr.heap.size 20 A n c (rowsV opCells L)) ∧ RowKit.Hid (Whole wr b0 30 [.int .i64 k1, .int .i64 k2, .int .i64 k3, .int .i64 k4, .slice A n c]) ∧ RowKit.Hid (Below w.heap.size w wr)) (fun _ i _ => 4 - (intOf i).toNat)
  case atStart => exact ⟨0, 0, none, 0, by omega, rfl, rfl, rfl, Lib.hid (World.ownsRow_nil _ _ _ _), HR0, HX0, HB0⟩
  case round =>
    clear HR0 HX0 HB0
    obtain ⟨k, m, A1, c1, hk, hm, rfl, rfl, HO, HR, HX, HB⟩ := hrel
    obtain ⟨wz, gwz⟩ : ∃ z, wr = z := ⟨_, rfl⟩
    rw [gwz] at HO HR HX HB ⊢
    clear gwz
    by_cases hlt : k < 4
    · have hltI : (k : Int) < 4 := by omega
      have hix := idx_a4 _ k hlt _ (h4_get k1 k2 k3 k4 k hlt)
      have hT := h4_take (k1, k2, k3, k4) k hlt
      obtain ⟨y, gy⟩ : ∃ z, h4G (k1, k2, k3, k4) k = z := ⟨_, rfl⟩
      rw [gy] at hix hT
      obtain ⟨m1, gm1⟩ : ∃ z, m + 8 = z := ⟨_, rfl⟩
      have hm1 : m1 = 8 * (k + 1) := by omega
      rw [← hm, ← hm1] at hT
      have HT := Lib.hid hT
      have hml : ((h4B (k1, k2, k3, k4)).take m).length = m := by rw [List.length_take, h4B_len]; omega
      have Hml := Lib.hid hml
      have hmle : m ≤ 900000 := by omega
      have Hgm := Lib.hid gm1
      have Hm1 := Lib.hid hm1
      clear hT gy hml gm1 hm hm1
      go_wp2_with fail
      clear hix
      refine (num_b A1 m c1 _ y _ Hml.out (own_rds HO.out) hmle m1 Hgm.out).mono ?_
      rintro e w3 ⟨A3, c3, rfl, ho3, hb3⟩
      rw [HT.out] at ho3
      have HO3 := Lib.hid (own_lo8 ho3 HB.out.size)
      have HR3 := Lib.hid (HR.out.bl hb3)
      have HX3 := Lib.hid (HX.out.bl hb3)
      have HB3 := Lib.hid (bel_bl HB.out hb3)
      clear ho3 hb3 HO HR HX HB HT Hml
      go_wp2
      go_roundw
      case rel => exact ⟨k + 1, m1, A3, c3, by omega, Hm1.out, rfl, by go_num, HO3, HR3, HX3, HB3⟩
      case measure => simp [intOf]; omega
    · obtain rfl : 4 = k := by omega
      obtain rfl : 32 = m := hm.symm
      have ho := HO.out
      rw [show (h4B (k1, k2, k3, k4)).take 32 = h4B (k1, k2, k3, k4) from List.take_of_length_le (by rw [h4B_len]; exact Nat.le_refl _)] at ho
      have HO := Lib.hid ho
      have x4 := HX.out.cell (i := 4) rfl
      clear ho hk hlt hm
      by_cases hL0 : L = []
      · subst hL0
        have hn0 : n = 0 := (h_l.out).symm.trans rfl
        have hz1 : ((n : Int) == 0) = true := by rw [hn0]; rfl
        have hP := sdP_nil (k1, k2, k3, k4)
        have HP : RowKit.Hid (GivesP w ((k1, k2, k3, k4), []) (.returned (.tuple #[.slice A1 32 c1, .int .i64 0])) wz) := Lib.hid (by
          unfold GivesP
          rw [hP.1, hP.2, h4B_len]
          exact ⟨A1, c1, rfl, HO.out, HB.out⟩)
        clear hn0 hP HR HO
        go_wp2
        refine bodyPost_ret (v := .tuple #[.slice A1 32 c1, .int .i64 0]) (by simp [results, Try.results13, go_sem]) rfl ?_
        exact HP.out
      · have hn1 : 0 < n := by rw [← h_l.out]; exact List.length_pos_iff.2 hL0
        have hz1 : ((n : Int) == 0) = false := beq_eq_false_iff_ne.2 (by omega)
        have hP := sdP_ops (k1, k2, k3, k4) hL0
        have HPt := Lib.hid hP
        clear hP hL0 hn1
        go_wp2_with fail
        refine (oput10_p A1 32 c1 (h4B (k1, k2, k3, k4)) A n c L _ (h4B_len _) (own_rds HO.out) (by omega) HR.out hn).mono ?_
        rintro e w5 ⟨A5, c5, rfl, ho5, hb5⟩
        have HP : RowKit.Hid (GivesP w ((k1, k2, k3, k4), L) (.returned (.tuple #[.slice A5 (pE (h4B (k1, k2, k3, k4)) L).length c5, .int .i64 (mayE L)])) w5) := Lib.hid (by
          unfold GivesP
          rw [HPt.out.1, HPt.out.2]
          exact ⟨A5, c5, rfl, own_lo8 ho5 HB.out.size, bel_bl HB.out hb5⟩)
        clear ho5 hb5 HR HO HPt
        go_wp2
        refine bodyPost_ret (v := .tuple #[.slice A5 (pE (h4B (k1, k2, k3, k4)) L).length c5, .int .i64 (mayE L)]) (by simp [results, Try.results13, go_sem]) rfl ?_
        exact HP.out
end Go.Proofs.Ytinfbaflkjghhaa
/- Take: bytes taken as a step, and the document's own. -/
namespace Go.Proofs.Ytinfbaflkjghhaa
open Go.RowKit
theorem rds_mid {w : World} {Bd n c i k m : Nat} {A : Option Addr} {L : List Nat} (h : RdS w Bd 1 A n c (rowsV f8 L)) (hik : i ≤ k) (hk : k ≤ n) (hm : k - i = m) : RdS w Bd 1 (if c = i then A else A.map (·.add (i * 1))) m (c - i) (rowsV f8 ((L.take k).drop i)) := by
  subst hm
  have h1 := (h.take_ k hk).low_ hik
  rw [rowsV_drop f8 f8_len, rowsV_take f8 f8_len]
  exact h1
theorem rds_low8 {w : World} {Bd n c i m : Nat} {A : Option Addr} {L : List Nat} (h : RdS w Bd 1 A n c (rowsV f8 L)) (hi : i ≤ n) (hm : n - i = m) : RdS w Bd 1 (if c = i then A else A.map (·.add (i * 1))) m (c - i) (rowsV f8 (L.drop i)) := by
  subst hm
  have h1 := h.low_ hi
  rw [rowsV_drop f8 f8_len]
  exact h1
theorem takenum_p (A : Option Addr) (c : Nat) (L : List Nat) (w : World) (hl : L.length = 8) (h : RdS w w.heap.size 1 A 8 c (rowsV f8 L)) (hb : ∀ b ∈ L, b < 256) (y : Int) (hy : num8 L = y) : Calls Try.prog 20 #[.slice A 8 c] w fun e w' => ∃ A' n' c', e = .returned (.tuple #[.int .i64 y, .slice A' n' c', .bool true]) ∧ Below w.heap.size w w' := by
  have e := takenum_any A c L w (by rw [hl]; exact h) (by omega) hb
  rw [hl] at e
  refine e.mono ?_
  rintro e w' ⟨A', n', c', rfl, -, -, h4⟩
  rw [if_pos (by omega), List.take_of_length_le (by omega), hy, decide_eq_true (show 8 ≤ L.length by omega)]
  exact ⟨A', n', c', rfl, h4⟩
theorem rtakenum_p (A : Option Addr) (n c : Nat) (L : List Nat) (w : World) (hl : 8 ≤ L.length) (h : RdS w w.heap.size 1 A n c (rowsV f8 L)) (hn : n ≤ 100000) (hb : ∀ b ∈ L, b < 256) (y : Int) (hy : num8 (L.take 8) = y) : Calls Try.prog 22 #[.slice A n c] w fun e w' => ∃ A' n' c', e = .returned (.tuple #[.int .i64 y, .slice A' n' c', .bool true]) ∧ Below w.heap.size w w' := by
  refine (rtakenum_any A n c L w h hn hb).mono ?_
  rintro e w' ⟨A', n', c', rfl, -, -, h4⟩
  rw [if_pos hl, hy, decide_eq_true hl]
  exact ⟨A', n', c', rfl, h4⟩
theorem owhole_p (A : Option Addr) (n c : Nat) (B : List Nat) (w : World) (hl : B.length = n) (h : RdS w w.heap.size 1 A n c (rowsV f8 B)) (hn : n ≤ 90000) (hb : ∀ b ∈ B, b < 256) :
    Calls Try.prog 21 #[.slice A n c] w fun e w' => ∃ A1 k1, e = .returned (.tuple #[.agg #[.slice A1 (whV B).length k1], .int .i64 (whE B)]) ∧ w'.ownsRow w.heap.size 53 20 (.slice A1 (whV B).length k1) (whV B).length (rowsV opCells (whV B)) ∧ Below w.heap.size w w' := by
  subst hl
  exact owhole_any A c B w h hn hb
def h4A (x : H4) (k : Nat) : List Value := [.int .i64 (if 0 < k then x.1 else 0), .int .i64 (if 1 < k then x.2.1 else 0), .int .i64 (if 2 < k then x.2.2.1 else 0), .int .i64 (if 3 < k then x.2.2.2 else 0)]
theorem h4A_set (x : H4) (k : Nat) (hk : k < 4) : (h4A x k).set k (.int .i64 (h4G x k)) = h4A x (k + 1) := by
  have : k = 0 ∨ k = 1 ∨ k = 2 ∨ k = 3 := by omega
  rcases this with rfl | rfl | rfl | rfl <;> rfl
theorem h4A_get (x : H4) (k : Nat) (hk : k < 4) : (h4A x k)[k]? = some (.int .i64 0) := by
  have : k = 0 ∨ k = 1 ∨ k = 2 ∨ k = 3 := by omega
  rcases this with rfl | rfl | rfl | rfl <;> rfl
theorem h4V_get {B : List Nat} {k : Nat} (hk : k < 4) (hl : 32 ≤ B.length) : num8 ((B.take (8 * (k + 1))).drop (8 * k)) = h4G (h4V B) k ∧ ((B.take (8 * (k + 1))).drop (8 * k)).length = 8 := by
  have e : (B.take (8 * (k + 1))).drop (8 * k) = (B.drop (8 * k)).take 8 := by rw [List.drop_take]; congr 1; omega
  rw [e]
  refine ⟨?_, by rw [List.length_take, List.length_drop]; omega⟩
  have : k = 0 ∨ k = 1 ∨ k = 2 ∨ k = 3 := by omega
  rcases this with rfl | rfl | rfl | rfl <;> rfl
/-- A step of the call's own, and an error. -/
def GivesS (w : World) (x : SD) (E : Int) (e : Ending) (w' : World) : Prop :=
  ∃ A n c, e = .returned (.tuple #[.agg (stC (x.1, (A, n, c, x.2))).toArray, .int .i64 E]) ∧ n = x.2.length ∧ w'.ownsRow w.heap.size 53 20 (.slice A n c) n (rowsV opCells x.2) ∧ Below w.heap.size w w'
theorem tk_no {B : List Nat} (h : okS B = false) : tkS B = zS ∧ tkSE B = 240 := by
  unfold tkS tkSE
  rw [h]
  exact ⟨rfl, rfl⟩
theorem tk_yes {B : List Nat} (h : okS B = true) : tkS B = (h4V B, whV (B.drop 32)) ∧ tkSE B = 0 := by
  unfold tkS tkSE
  rw [h]
  exact ⟨rfl, rfl⟩
theorem okS_short {B : List Nat} (h : B.length < 32) : okS B = false := by
  unfold okS
  rw [decide_eq_false (by omega), decide_eq_false (by omega)]
  rfl
theorem okS_head {B : List Nat} (h : B.length = 32) : okS B = true ∧ whV (B.drop 32) = [] := by
  unfold okS
  rw [decide_eq_true h, List.drop_eq_nil_of_le (by omega), whV_nil]
  exact ⟨rfl, rfl⟩
theorem okS_long {B : List Nat} (h : 32 < B.length) : okS B = okW (B.drop 32) := by
  unfold okS
  rw [decide_eq_false (by omega), decide_eq_true h]
  simp
theorem gives_no {w W : World} {B : List Nat} (h : okS B = false) (hb : Below w.heap.size w W) : GivesS w (tkS B) (tkSE B) (.returned (.tuple #[.agg #[.int .i64 0, .int .i64 0, .int .i64 0, .int .i64 0, .slice none 0 0], .int .i64 240])) W := by
  rw [(tk_no h).1, (tk_no h).2]
  exact ⟨none, 0, 0, rfl, rfl, World.ownsRow_nil _ _ _ _, hb⟩
set_option maxRecDepth 100000 in
set_option maxHeartbeats 4000000 in
theorem take23_any (A : Option Addr) (n c : Nat) (B : List Nat) (w : World) (hl : B.length = n) (h : RdS w w.heap.size 1 A n c (rowsV f8 B)) (hn : n ≤ 90000) (hb : ∀ b ∈ B, b < 256) :
    Calls Try.prog 10 #[.slice A n c] w (GivesS w (tkS B) (tkSE B)) := by
  have HR := Lib.hid (h.al (.cells #[.int .i64 0, .int .i64 0, .int .i64 0, .int .i64 0, .slice none 0 0] 30))
  have HX : RowKit.Hid (Whole (w.alloc (.cells #[.int .i64 0, .int .i64 0, .int .i64 0, .int .i64 0, .slice none 0 0] 30)) w.heap.size 30 [.int .i64 0, .int .i64 0, .int .i64 0, .int .i64 0, .slice none 0 0]) := Lib.hid (Whole.new_ _ _ [.int .i64 0, .int .i64 0, .int .i64 0, .int .i64 0, .slice none 0 0])
  have HB : RowKit.Hid (Below w.heap.size w (w.alloc (.cells #[.int .i64 0, .int .i64 0, .int .i64 0, .int .i64 0, .slice none 0 0] 30))) := Lib.hid (below1 _ _)
  have Hl := Lib.hid hl
  have Hb := Lib.hid hb
  clear h hl hb
  go_enter Try.func10, Try.ntmps10
  go_upto_region 1 with fail
  obtain ⟨W0, gW0⟩ : ∃ z, w.alloc (.cells #[.int .i64 0, .int .i64 0, .int .i64 0, .int .i64 0, .slice none 0 0] 30) = z := ⟨_, rfl⟩
  obtain ⟨b2, gb2⟩ : ∃ z, w.heap.size = z := ⟨_, rfl⟩
  have Lb2 : RowKit.Hid (w.heap.size ≤ b2) := Lib.hid (Nat.le_of_eq gb2)
  rw [gW0] at HR HX HB ⊢
  rw [gb2] at HX ⊢
  clear gW0 gb2
  have HX0 := HX
  have HR0 := HR
  have HB0 := HB
  clear HX HR HB
  by_cases hs : n < 32
  · have hok := okS_short (show B.length < 32 by rw [Hl.out]; exact hs)
    have hz0 : decide ((n : Int) < 32) = true := decide_eq_true (by omega)
    have HY := Lib.hid (((((HX0.out.set_ 0 (.int .i64 0)).set_ 1 (.int .i64 0)).set_ 2 (.int .i64 0)).set_ 3 (.int .i64 0)).set_ 4 (.slice none 0 0))
    have HP : RowKit.Hid (GivesS w (tkS B) (tkSE B) (.returned (.tuple #[.agg #[.int .i64 0, .int .i64 0, .int .i64 0, .int .i64 0, .slice none 0 0], .int .i64 240])) ((((((W0.setCell ⟨b2, 0, none⟩ (.int .i64 0)).setCell ⟨b2, 1, none⟩ (.int .i64 0)).setCell ⟨b2, 2, none⟩ (.int .i64 0)).setCell ⟨b2, 3, none⟩ (.int .i64 0)).setCell ⟨b2, 4, none⟩ (.slice none 0 0)))) := Lib.hid (gives_no hok (((((HB0.out.setCell (p := ⟨b2, 0, none⟩) Lb2.out (.int .i64 0)).setCell (p := ⟨b2, 1, none⟩) Lb2.out (.int .i64 0)).setCell (p := ⟨b2, 2, none⟩) Lb2.out (.int .i64 0)).setCell (p := ⟨b2, 3, none⟩) Lb2.out (.int .i64 0)).setCell (p := ⟨b2, 4, none⟩) Lb2.out (.slice none 0 0)))
    have f0 := HX0.out.free 0
    have f1 := HX0.out.free 1
    have f2 := HX0.out.free 2
    have f3 := HX0.out.free 3
    have f4 := HX0.out.free 4
    have k0 := HX0.out.cell (i := 0) rfl
    have k1 := HX0.out.cell (i := 1) rfl
    have k2 := HX0.out.cell (i := 2) rfl
    have k3 := HX0.out.cell (i := 3) rfl
    have k4 := HX0.out.cell (i := 4) rfl
    clear hok HX0 HR0 HB0
    go_wp2
    exact ret_whole2 rfl b2 rfl rfl HY.out Try.underlying30 rfl (by kernel_rfl) rfl HP.out
  · have hz0 : decide ((n : Int) < 32) = false := decide_eq_false (by omega)
    have h32 : 32 ≤ B.length := by rw [Hl.out]; omega
    obtain ⟨⟨x1, x2, x3, x4⟩, gx⟩ : ∃ z, h4V B = z := ⟨_, rfl⟩
    have Hx := Lib.hid gx
    have H32 := Lib.hid h32
    clear gx h32
    go_upto_region 5 with fail
    have hR := HR0.out.al (.cells #[.int .i64 0, .int .i64 0, .int .i64 0, .int .i64 0] 54)
    have hX := HX0.out.al (.cells #[.int .i64 0, .int .i64 0, .int .i64 0, .int .i64 0] 54)
    have hB := bel_al HB0.out (.cells #[.int .i64 0, .int .i64 0, .int .i64 0, .int .i64 0] 54)
    have hA : Whole (W0.alloc (.cells #[.int .i64 0, .int .i64 0, .int .i64 0, .int .i64 0] 54)) W0.heap.size 54 (h4A (x1, x2, x3, x4) 0) := Whole.new_ W0 54 [.int .i64 0, .int .i64 0, .int .i64 0, .int .i64 0]
    obtain ⟨W1, gW1⟩ : ∃ z, W0.alloc (.cells #[.int .i64 0, .int .i64 0, .int .i64 0, .int .i64 0] 54) = z := ⟨_, rfl⟩
    have hlt4 : b2 < W0.heap.size := HX0.out.lt
    have hlw : w.heap.size ≤ W0.heap.size := HB0.out.size
    obtain ⟨b4, gb4⟩ : ∃ z, W0.heap.size = z := ⟨_, rfl⟩
    rw [gW1] at hR hX hB hA ⊢
    rw [gb4] at hA hlt4 hlw ⊢
    have HR1 := Lib.hid hR
    have HX1 := Lib.hid hX
    have HB1 := Lib.hid hB
    have HA1 := Lib.hid hA
    have N24 : RowKit.Hid (b2 ≠ b4) := Lib.hid (by omega)
    have Lb4 : RowKit.Hid (w.heap.size ≤ b4) := Lib.hid hlw
    have HAf1 : RowKit.Hid (∀ a, A = some a → 0 < n → a.block ≠ b4) := Lib.hid (fun a ha h0 => by have := HR0.out.low a ha h0; omega)
    clear hR hX hB hA gW1 gb4 hlt4 hlw HX0 HR0 HB0
    go_loopw [13] (fun i wr => ∃ k : Nat, k ≤ 4 ∧ i = .int .i64 (k : Int) ∧ RowKit.Hid (Whole wr b4 54 (h4A (x1, x2, x3, x4) k)) ∧ RowKit.Hid (Whole wr b2 30 [.int .i64 0, .int .i64 0, .int .i64 0, .int .i64 0, .slice none 0 0]) ∧ RowKit.Hid (RdS wr wr.heap.size 1 A n c (rowsV f8 B)) ∧ RowKit.Hid (Below w.heap.size w wr)) (fun i _ => 4 - (intOf i).toNat)
    case atStart => exact ⟨0, by omega, rfl, HA1, HX1, HR1, HB1⟩
    case round =>
      clear HA1 HX1 HR1 HB1
      obtain ⟨k, hk, rfl, HA, HX, HR, HB⟩ := hrel
      obtain ⟨wz, gwz⟩ : ∃ z, wr = z := ⟨_, rfl⟩
      rw [gwz] at HA HX HR HB ⊢
      clear gwz
      by_cases hlt : k < 4
      · have hltI : (k : Int) < 4 := by omega
        obtain ⟨k1, gk1⟩ : ∃ z, k + 1 = z := ⟨_, rfl⟩
        obtain ⟨i8, gi8⟩ : ∃ z, 8 * k = z := ⟨_, rfl⟩
        obtain ⟨j8, gj8⟩ : ∃ z, 8 * k1 = z := ⟨_, rfl⟩
        have e1 : IntKind.i64.wrap ((k : Int) * 8) = (i8 : Int) := by rw [show (k : Int) * 8 = (i8 : Int) by omega]; exact IntWalk.i64_in _ (by omega)
        have e2 : IntKind.i64.wrap ((k : Int) + 1) = (k1 : Int) := by rw [show (k : Int) + 1 = (k1 : Int) by omega]; exact IntWalk.i64_in _ (by omega)
        have e3 : IntKind.i64.wrap ((k1 : Int) * 8) = (j8 : Int) := by rw [show (k1 : Int) * 8 = (j8 : Int) by omega]; exact IntWalk.i64_in _ (by omega)
        have hg := h4V_get hlt H32.out
        rw [Hx.out] at hg
        have hset := h4A_set (x1, x2, x3, x4) k hlt
        obtain ⟨y, gy⟩ : ∃ z, h4G (x1, x2, x3, x4) k = z := ⟨_, rfl⟩
        rw [gy] at hg hset
        rw [gk1, gi8, gj8] at hg
        rw [gk1] at hset
        have hcs : i8 ≤ j8 ∧ j8 ≤ n ∧ j8 - i8 = 8 := by omega
        obtain ⟨As, gAs⟩ : ∃ z, (if c = i8 then A else A.map (·.add (i8 * 1))) = z := ⟨_, rfl⟩
        obtain ⟨cs, gcs⟩ : ∃ z, c - i8 = z := ⟨_, rfl⟩
        have hrs := rds_mid HR.out hcs.1 hcs.2.1 hcs.2.2
        rw [gAs, gcs] at hrs
        have HRs := Lib.hid hrs
        have HG := Lib.hid hg
        have HSet := Lib.hid hset
        have HAs := Lib.hid gAs
        have Hcs := Lib.hid (show i8 ≤ j8 ∧ j8 ≤ c ∧ j8 - i8 = 8 from ⟨hcs.1, Nat.le_trans hcs.2.1 HR.out.le, hcs.2.2⟩)
        have Hgc := Lib.hid gcs
        have HLt : RowKit.Hid (∀ b ∈ (B.take j8).drop i8, b < 256) := Lib.hid (fun b hb => Hb.out b (List.mem_of_mem_take (List.mem_of_mem_drop hb)))
        have ha4 := HA.out.cell (i := k) (h4A_get _ k hlt)
        have fa4 := HA.out.free k
        have Hk1 := Lib.hid gk1
        clear hrs hg hset gAs gcs hcs gy gi8 gj8 gk1 ha4 fa4
        go_upto_region 7 with fail
        refine wp_region_lit ?_
        refine wl_read (v := ?_) (some 17) rfl (by rfl) ?_ ?_
        rotate_left
        · go_simp; (try with_reducible rfl)
        simp only [Act.put, stA_, st0_, st1_]
        refine wl_read (v := ?_) (some 18) rfl (by rfl) ?_ ?_
        rotate_left
        · go_simp; (try with_reducible rfl)
        simp only [Act.put, stA_, st0_, st1_]
        refine wl_read (v := ?_) (some 19) rfl (by rfl) ?_ ?_
        rotate_left
        · go_simp; (try with_reducible rfl)
        simp only [Act.put, stA_, st0_, st1_]
        refine wl_read (v := ?_) (some 20) rfl (by rfl) ?_ ?_
        rotate_left
        · go_simp; (try with_reducible rfl)
        simp only [Act.put, stA_, st0_, st1_]
        refine wl_read (v := ?_) (some 21) rfl (by rfl) ?_ ?_
        rotate_left
        · go_simp; (try with_reducible rfl)
        simp only [Act.put, stA_, st0_, st1_]
        refine wl_read (v := ?_) (some 22) rfl (by rfl) ?_ ?_
        rotate_left
        · go_simp; (try with_reducible rfl)
        simp only [Act.put, stA_, st0_, st1_]
        refine wl_read (v := ?_) (some 23) rfl (by rfl) ?_ ?_
        rotate_left
        · go_simp; (try with_reducible rfl)
        simp only [Act.put, stA_, st0_, st1_]
        refine wl_run (some 24) rfl (by rfl) (exec_slice_as 23 5 (.tmp 18) (.tmp 20) (.tmp 23) rfl Try.underlying23 (s := 1) (by kernel_rfl) rfl rfl rfl Hcs.out.1 Hcs.out.2.1 HAs.out Hcs.out.2.2 Hgc.out) ?_
        simp only [Act.put, stA_, st0_, st1_]
        go_wp2_with fail
        refine (takenum_p As cs _ _ HG.out.2 HRs.out HLt.out y HG.out.1).mono ?_
        rintro e w3 ⟨A3, n3, c3, rfl, hb3⟩
        have HA3 := Lib.hid (HA.out.bl hb3)
        have ha4 := HA3.out.cell (i := k) (h4A_get _ k hlt)
        have fa4 := HA3.out.free k
        have HA4 := HA3.out.set_ k (.int .i64 y)
        rw [HSet.out] at HA4
        have HA5 := Lib.hid HA4
        have HX5 := Lib.hid ((HX.out.bl hb3).far (p := ⟨b4, k, none⟩) (show b2 ≠ b4 from N24.out) (.int .i64 y))
        have HR5 : RowKit.Hid (RdS (w3.setCell ⟨b4, k, none⟩ (.int .i64 y)) (w3.setCell ⟨b4, k, none⟩ (.int .i64 y)).heap.size 1 A n c (rowsV f8 B)) := Lib.hid ((HR.out.bl hb3).far (p := ⟨b4, k, none⟩) (fun h0 a ha => HAf1.out a ha h0) (.int .i64 y))
        have HB5 := Lib.hid ((bel_bl HB.out hb3).setCell (p := ⟨b4, k, none⟩) Lb4.out (.int .i64 y))
        clear HA4 hb3 HA HX HR HB HA3 HG HRs HSet HLt e1 e3
        go_wp2
        go_roundw
        case rel => exact ⟨k + 1, by omega, by first | go_num | (rw [Hk1.out]), by rw [Hk1.out]; exact HA5, HX5, HR5, HB5⟩
        case measure => have := Hk1.out; simp [intOf]; omega
      · obtain rfl : 4 = k := by omega
        have HA4 : RowKit.Hid (Whole wz b4 54 [.int .i64 x1, .int .i64 x2, .int .i64 x3, .int .i64 x4]) := Lib.hid HA.out
        have a0 := HA4.out.cell (i := 0) rfl
        have a1 := HA4.out.cell (i := 1) rfl
        have a2 := HA4.out.cell (i := 2) rfl
        have a3 := HA4.out.cell (i := 3) rfl
        clear HA hk hlt
        go_upto_region 10 with fail
        have hT : Whole (wz.alloc (.cells #[.int .i64 x1, .int .i64 x2, .int .i64 x3, .int .i64 x4, .slice none 0 0] 30)) wz.heap.size 30 [.int .i64 x1, .int .i64 x2, .int .i64 x3, .int .i64 x4, .slice none 0 0] := Whole.new_ wz 30 [.int .i64 x1, .int .i64 x2, .int .i64 x3, .int .i64 x4, .slice none 0 0]
        have hX := HX.out.al (.cells #[.int .i64 x1, .int .i64 x2, .int .i64 x3, .int .i64 x4, .slice none 0 0] 30)
        have hR := HR.out.al (.cells #[.int .i64 x1, .int .i64 x2, .int .i64 x3, .int .i64 x4, .slice none 0 0] 30)
        have hB := bel_al HB.out (.cells #[.int .i64 x1, .int .i64 x2, .int .i64 x3, .int .i64 x4, .slice none 0 0] 30)
        have hl2 : b2 < wz.heap.size := HX.out.lt
        have hlw : w.heap.size ≤ wz.heap.size := HB.out.size
        obtain ⟨wy, gwy⟩ : ∃ z, wz.alloc (.cells #[.int .i64 x1, .int .i64 x2, .int .i64 x3, .int .i64 x4, .slice none 0 0] 30) = z := ⟨_, rfl⟩
        obtain ⟨bt, gbt⟩ : ∃ z, wz.heap.size = z := ⟨_, rfl⟩
        rw [gwy] at hT hX hR hB ⊢
        rw [gbt] at hT hl2 hlw ⊢
        have N2t : RowKit.Hid (b2 ≠ bt) := Lib.hid (by omega)
        have Lbt : RowKit.Hid (w.heap.size ≤ bt) := Lib.hid hlw
        clear gwy gbt hl2 hlw HA4 a0 a1 a2 a3 HX HR HB wz
        obtain ⟨wz, gwz⟩ : ∃ z, wy = z := ⟨_, rfl⟩
        rw [gwz] at hT hX hR hB ⊢
        clear gwz
        have HX := Lib.hid hX
        have HT := Lib.hid hT
        have HR := Lib.hid hR
        have HB := Lib.hid hB
        clear hX hT hR hB
        by_cases h32 : n = 32
        · have ho := okS_head (Hl.out.trans h32)
          have hv : tkS B = ((x1, x2, x3, x4), []) ∧ tkSE B = 0 := by
            have := tk_yes ho.1
            rw [ho.2, Hx.out] at this
            exact this
          have HY := Lib.hid (((((HX.out.set_ 0 (.int .i64 x1)).set_ 1 (.int .i64 x2)).set_ 2 (.int .i64 x3)).set_ 3 (.int .i64 x4)).set_ 4 (.slice none 0 0))
          have HP : RowKit.Hid (GivesS w (tkS B) (tkSE B) (.returned (.tuple #[.agg #[.int .i64 x1, .int .i64 x2, .int .i64 x3, .int .i64 x4, .slice none 0 0], .int .i64 0])) ((((((wz.setCell ⟨b2, 0, none⟩ (.int .i64 x1)).setCell ⟨b2, 1, none⟩ (.int .i64 x2)).setCell ⟨b2, 2, none⟩ (.int .i64 x3)).setCell ⟨b2, 3, none⟩ (.int .i64 x4)).setCell ⟨b2, 4, none⟩ (.slice none 0 0)))) := Lib.hid (by
            rw [hv.1, hv.2]
            exact ⟨none, 0, 0, rfl, rfl, World.ownsRow_nil _ _ _ _, (((((HB.out.setCell (p := ⟨b2, 0, none⟩) Lb2.out (.int .i64 x1)).setCell (p := ⟨b2, 1, none⟩) Lb2.out (.int .i64 x2)).setCell (p := ⟨b2, 2, none⟩) Lb2.out (.int .i64 x3)).setCell (p := ⟨b2, 3, none⟩) Lb2.out (.int .i64 x4)).setCell (p := ⟨b2, 4, none⟩) Lb2.out (.slice none 0 0))⟩)
          have f0 := HX.out.free 0
          have f1 := HX.out.free 1
          have f2 := HX.out.free 2
          have f3 := HX.out.free 3
          have f4 := HX.out.free 4
          have k0 := HX.out.cell (i := 0) rfl
          have k1 := HX.out.cell (i := 1) rfl
          have k2 := HX.out.cell (i := 2) rfl
          have k3 := HX.out.cell (i := 3) rfl
          have k4 := HX.out.cell (i := 4) rfl
          have t0 := HT.out.cell (i := 0) rfl
          have t1 := HT.out.cell (i := 1) rfl
          have t2 := HT.out.cell (i := 2) rfl
          have t3 := HT.out.cell (i := 3) rfl
          have t4 := HT.out.cell (i := 4) rfl
          have hz1 : ((n : Int) == 32) = true := by rw [h32]; rfl
          clear ho hv HX HT HR HB h32
          go_wp2
          exact ret_whole2 rfl b2 rfl rfl HY.out Try.underlying30 rfl (by kernel_rfl) rfl HP.out
        · have hz1 : ((n : Int) == 32) = false := beq_eq_false_iff_ne.2 (by omega)
          have hgt : 32 < B.length := by rw [Hl.out]; omega
          obtain ⟨m, gm⟩ : ∃ z, n - 32 = z := ⟨_, rfl⟩
          obtain ⟨As, gAs⟩ : ∃ z, (if c = 32 then A else A.map (·.add (32 * 1))) = z := ⟨_, rfl⟩
          obtain ⟨cs, gcs⟩ : ∃ z, c - 32 = z := ⟨_, rfl⟩
          have hrs := rds_low8 HR.out (by omega) gm
          rw [gAs, gcs] at hrs
          have HRs := Lib.hid hrs
          have HL2 : RowKit.Hid ((B.drop 32).length = m) := Lib.hid (by rw [List.length_drop, Hl.out]; exact gm)
          have Hm9 : RowKit.Hid (m ≤ 90000) := Lib.hid (by omega)
          have Hok := Lib.hid (okS_long hgt)
          have HAs := Lib.hid gAs
          have Hgm := Lib.hid gm
          have Hgc := Lib.hid gcs
          have H32 : RowKit.Hid (32 ≤ n) := Lib.hid (by omega)
          clear hrs gAs gm gcs h32
          go_upto_region 12 with fail
          refine wp_region_lit ?_
          refine wl_read (v := ?_) (some 45) rfl (by rfl) ?_ ?_
          rotate_left
          · go_simp; (try with_reducible rfl)
          simp only [Act.put, stA_, st0_, st1_]
          refine wl_run (some 46) rfl (by rfl) (exec_slice_low_as 23 5 (.tmp 45) (.const (.int .i64 32)) rfl Try.underlying23 (s := 1) (by kernel_rfl) rfl rfl H32.out HAs.out Hgm.out Hgc.out) ?_
          simp only [Act.put, stA_, st0_, st1_]
          go_wp2_with fail
          refine (owhole_p As m cs (B.drop 32) _ HL2.out HRs.out Hm9.out (drop_lt Hb.out 32)).mono ?_
          rintro e w5 ⟨A5, c5, rfl, ho5, hb5⟩
          have HX5 := Lib.hid ((HX.out.bl hb5).al (.cells #[.slice A5 (whV (B.drop 32)).length c5] 28))
          have HT5 := Lib.hid ((HT.out.bl hb5).al (.cells #[.slice A5 (whV (B.drop 32)).length c5] 28))
          have HB5 := Lib.hid (bel_al (bel_bl HB.out hb5) (.cells #[.slice A5 (whV (B.drop 32)).length c5] 28))
          have HO5 := Lib.hid (own_up ho5 (below1 w5 (.cells #[.slice A5 (whV (B.drop 32)).length c5] 28)))
          have HE5 : RowKit.Hid (Whole (w5.alloc (.cells #[.slice A5 (whV (B.drop 32)).length c5] 28)) w5.heap.size 28 [.slice A5 (whV (B.drop 32)).length c5]) := Lib.hid (Whole.new_ _ _ [_])
          have Lw5 : RowKit.Hid (wz.heap.size ≤ w5.heap.size) := Lib.hid hb5.size
          have Lz : RowKit.Hid (b2 < wz.heap.size ∧ bt < wz.heap.size ∧ w.heap.size ≤ wz.heap.size) := Lib.hid ⟨HX.out.lt, HT.out.lt, HB.out.size⟩
          clear ho5 hb5 HX HT HB HR HRs
          have N2 : RowKit.Hid (some b2 ≠ (Value.slice A5 (whV (B.drop 32)).length c5).ownBlock) := Lib.hid (fun e => by have := (HO5.out.lt b2 e.symm).1; have := Lz.out; have := Lw5.out; omega)
          have Nt : RowKit.Hid (some bt ≠ (Value.slice A5 (whV (B.drop 32)).length c5).ownBlock) := Lib.hid (fun e => by have := (HO5.out.lt bt e.symm).1; have := Lz.out; have := Lw5.out; omega)
          obtain ⟨W5, gW5⟩ : ∃ z, w5.alloc (.cells #[.slice A5 (whV (B.drop 32)).length c5] 28) = z := ⟨_, rfl⟩
          obtain ⟨b5, gb5⟩ : ∃ z, w5.heap.size = z := ⟨_, rfl⟩
          cases hw : okW (B.drop 32) with
          | false =>
            have he : whE (B.drop 32) = 2 := whE_no hw
            have hok : okS B = false := by rw [Hok.out, hw]
            obtain ⟨l, gl⟩ : ∃ z, (whV (B.drop 32)).length = z := ⟨_, rfl⟩
            rw [gl] at HX5 HT5 HB5 HO5 HE5 gW5 ⊢
            rw [he]
            have HX := Lib.hid (gW5 ▸ HX5.out)
            have HBz := Lib.hid (gW5 ▸ HB5.out)
            have HY := Lib.hid (((((HX.out.set_ 0 (.int .i64 0)).set_ 1 (.int .i64 0)).set_ 2 (.int .i64 0)).set_ 3 (.int .i64 0)).set_ 4 (.slice none 0 0))
            have HP : RowKit.Hid (GivesS w (tkS B) (tkSE B) (.returned (.tuple #[.agg #[.int .i64 0, .int .i64 0, .int .i64 0, .int .i64 0, .slice none 0 0], .int .i64 240])) ((((((W5.setCell ⟨b2, 0, none⟩ (.int .i64 0)).setCell ⟨b2, 1, none⟩ (.int .i64 0)).setCell ⟨b2, 2, none⟩ (.int .i64 0)).setCell ⟨b2, 3, none⟩ (.int .i64 0)).setCell ⟨b2, 4, none⟩ (.slice none 0 0)))) := Lib.hid (gives_no hok (((((HBz.out.setCell (p := ⟨b2, 0, none⟩) Lb2.out (.int .i64 0)).setCell (p := ⟨b2, 1, none⟩) Lb2.out (.int .i64 0)).setCell (p := ⟨b2, 2, none⟩) Lb2.out (.int .i64 0)).setCell (p := ⟨b2, 3, none⟩) Lb2.out (.int .i64 0)).setCell (p := ⟨b2, 4, none⟩) Lb2.out (.slice none 0 0)))
            have f0 := HX.out.free 0
            have f1 := HX.out.free 1
            have f2 := HX.out.free 2
            have f3 := HX.out.free 3
            have f4 := HX.out.free 4
            have k0 := HX.out.cell (i := 0) rfl
            have k1 := HX.out.cell (i := 1) rfl
            have k2 := HX.out.cell (i := 2) rfl
            have k3 := HX.out.cell (i := 3) rfl
            have k4 := HX.out.cell (i := 4) rfl
            clear he hok hw gl HX5 HT5 HB5 HO5 HE5
            go_upto_region 13 with fail
            clear gW5 gb5
            go_wp2
            exact ret_whole2 rfl b2 rfl rfl HY.out Try.underlying30 rfl (by kernel_rfl) rfl HP.out
          | true =>
            have he : whE (B.drop 32) = 0 := by unfold whE; rw [hw]; rfl
            have hok : okS B = true := by rw [Hok.out, hw]
            have hv : tkS B = ((x1, x2, x3, x4), whV (B.drop 32)) ∧ tkSE B = 0 := by
              have := tk_yes hok
              rw [Hx.out] at this
              exact this
            rw [he]
            obtain ⟨V, gV⟩ : ∃ z, whV (B.drop 32) = z := ⟨_, rfl⟩
            rw [gV] at HX5 HT5 HB5 HO5 HE5 gW5 hv N2 Nt ⊢
            obtain ⟨l, gl⟩ : ∃ z, V.length = z := ⟨_, rfl⟩
            rw [gl] at HX5 HT5 HB5 HO5 HE5 gW5 N2 Nt ⊢
            rw [gW5] at HX5 HT5 HB5 HO5 HE5
            rw [gb5] at HE5
            have HT6 := Lib.hid (HT5.out.set_ 4 (.slice A5 l c5))
            have HX6 := Lib.hid (HX5.out.far (p := ⟨bt, 4, none⟩) (show b2 ≠ bt from N2t.out) (.slice A5 l c5))
            have HO6 := Lib.hid (own_cell_far HO5.out (i := 4) Nt.out (.slice A5 l c5))
            have HB6 := Lib.hid (HB5.out.setCell (p := ⟨bt, 4, none⟩) Lbt.out (.slice A5 l c5))
            have ft := HT5.out.free 4
            have kt := HT5.out.cell (i := 4) rfl
            have ke := HE5.out.cell (i := 0) rfl
            go_upto_region 15 with fail
            clear gW5 gb5
            go_upto_region 16 with fail
            clear ft kt ke
            obtain ⟨W6, gW6⟩ : ∃ z, W5.setCell ⟨bt, 4, none⟩ (.slice A5 l c5) = z := ⟨_, rfl⟩
            rw [gW6] at HT6 HX6 HO6 HB6 ⊢
            clear gW6
            have HY := Lib.hid (((((HX6.out.set_ 0 (.int .i64 x1)).set_ 1 (.int .i64 x2)).set_ 2 (.int .i64 x3)).set_ 3 (.int .i64 x4)).set_ 4 (.slice A5 l c5))
            have HP : RowKit.Hid (GivesS w (tkS B) (tkSE B) (.returned (.tuple #[.agg #[.int .i64 x1, .int .i64 x2, .int .i64 x3, .int .i64 x4, .slice A5 l c5], .int .i64 0])) ((((((W6.setCell ⟨b2, 0, none⟩ (.int .i64 x1)).setCell ⟨b2, 1, none⟩ (.int .i64 x2)).setCell ⟨b2, 2, none⟩ (.int .i64 x3)).setCell ⟨b2, 3, none⟩ (.int .i64 x4)).setCell ⟨b2, 4, none⟩ (.slice A5 l c5)))) := Lib.hid (by
              rw [hv.1, hv.2]
              exact ⟨A5, l, c5, rfl, gl.symm, own_lo8 (own_cell_far (own_cell_far (own_cell_far (own_cell_far (own_cell_far HO6.out (i := 0) N2.out (.int .i64 x1)) (i := 1) N2.out (.int .i64 x2)) (i := 2) N2.out (.int .i64 x3)) (i := 3) N2.out (.int .i64 x4)) (i := 4) N2.out (.slice A5 l c5)) (by have := Lz.out; have := Lw5.out; omega), (((((HB6.out.setCell (p := ⟨b2, 0, none⟩) Lb2.out (.int .i64 x1)).setCell (p := ⟨b2, 1, none⟩) Lb2.out (.int .i64 x2)).setCell (p := ⟨b2, 2, none⟩) Lb2.out (.int .i64 x3)).setCell (p := ⟨b2, 3, none⟩) Lb2.out (.int .i64 x4)).setCell (p := ⟨b2, 4, none⟩) Lb2.out (.slice A5 l c5))⟩)
            have f0 := HX6.out.free 0
            have f1 := HX6.out.free 1
            have f2 := HX6.out.free 2
            have f3 := HX6.out.free 3
            have f4 := HX6.out.free 4
            have k0 := HX6.out.cell (i := 0) rfl
            have k1 := HX6.out.cell (i := 1) rfl
            have k2 := HX6.out.cell (i := 2) rfl
            have k3 := HX6.out.cell (i := 3) rfl
            have k4 := HX6.out.cell (i := 4) rfl
            have t0 := HT6.out.cell (i := 0) rfl
            have t1 := HT6.out.cell (i := 1) rfl
            have t2 := HT6.out.cell (i := 2) rfl
            have t3 := HT6.out.cell (i := 3) rfl
            have t4 := HT6.out.cell (i := 4) rfl
            clear he hok hw gV gl hv HX5 HT5 HB5 HO5 HE5 HX6 HT6 HO6 HB6
            go_wp2
            exact ret_whole2 rfl b2 rfl rfl HY.out Try.underlying30 rfl (by kernel_rfl) rfl HP.out
set_option maxRecDepth 100000 in
set_option maxHeartbeats 4000000 in
theorem rtake23_any (A : Option Addr) (n c : Nat) (B : List Nat) (w : World) (hl : B.length = n) (h : RdS w w.heap.size 1 A n c (rowsV f8 B)) (hn : n ≤ 90000) (hb : ∀ b ∈ B, b < 256) :
    Calls Try.prog 11 #[.slice A n c] w (GivesS w (tkS B) (tkSE B)) := by
  have HR := Lib.hid (h.al (.cells #[.int .i64 0, .int .i64 0, .int .i64 0, .int .i64 0, .slice none 0 0] 30))
  have HX : RowKit.Hid (Whole (w.alloc (.cells #[.int .i64 0, .int .i64 0, .int .i64 0, .int .i64 0, .slice none 0 0] 30)) w.heap.size 30 [.int .i64 0, .int .i64 0, .int .i64 0, .int .i64 0, .slice none 0 0]) := Lib.hid (Whole.new_ _ _ [.int .i64 0, .int .i64 0, .int .i64 0, .int .i64 0, .slice none 0 0])
  have HB : RowKit.Hid (Below w.heap.size w (w.alloc (.cells #[.int .i64 0, .int .i64 0, .int .i64 0, .int .i64 0, .slice none 0 0] 30))) := Lib.hid (below1 _ _)
  have Hl := Lib.hid hl
  have Hb := Lib.hid hb
  clear h hl hb
  go_enter Try.func11, Try.ntmps11
  go_upto_region 1 with fail
  obtain ⟨W0, gW0⟩ : ∃ z, w.alloc (.cells #[.int .i64 0, .int .i64 0, .int .i64 0, .int .i64 0, .slice none 0 0] 30) = z := ⟨_, rfl⟩
  obtain ⟨b2, gb2⟩ : ∃ z, w.heap.size = z := ⟨_, rfl⟩
  have Lb2 : RowKit.Hid (w.heap.size ≤ b2) := Lib.hid (Nat.le_of_eq gb2)
  rw [gW0] at HR HX HB ⊢
  rw [gb2] at HX ⊢
  clear gW0 gb2
  have HX0 := HX
  have HR0 := HR
  have HB0 := HB
  clear HX HR HB
  by_cases hs : n < 32
  · have hok := okS_short (show B.length < 32 by rw [Hl.out]; exact hs)
    have hz0 : decide ((n : Int) < 32) = true := decide_eq_true (by omega)
    have HY := Lib.hid (((((HX0.out.set_ 0 (.int .i64 0)).set_ 1 (.int .i64 0)).set_ 2 (.int .i64 0)).set_ 3 (.int .i64 0)).set_ 4 (.slice none 0 0))
    have HP : RowKit.Hid (GivesS w (tkS B) (tkSE B) (.returned (.tuple #[.agg #[.int .i64 0, .int .i64 0, .int .i64 0, .int .i64 0, .slice none 0 0], .int .i64 240])) ((((((W0.setCell ⟨b2, 0, none⟩ (.int .i64 0)).setCell ⟨b2, 1, none⟩ (.int .i64 0)).setCell ⟨b2, 2, none⟩ (.int .i64 0)).setCell ⟨b2, 3, none⟩ (.int .i64 0)).setCell ⟨b2, 4, none⟩ (.slice none 0 0)))) := Lib.hid (gives_no hok (((((HB0.out.setCell (p := ⟨b2, 0, none⟩) Lb2.out (.int .i64 0)).setCell (p := ⟨b2, 1, none⟩) Lb2.out (.int .i64 0)).setCell (p := ⟨b2, 2, none⟩) Lb2.out (.int .i64 0)).setCell (p := ⟨b2, 3, none⟩) Lb2.out (.int .i64 0)).setCell (p := ⟨b2, 4, none⟩) Lb2.out (.slice none 0 0)))
    have f0 := HX0.out.free 0
    have f1 := HX0.out.free 1
    have f2 := HX0.out.free 2
    have f3 := HX0.out.free 3
    have f4 := HX0.out.free 4
    have k0 := HX0.out.cell (i := 0) rfl
    have k1 := HX0.out.cell (i := 1) rfl
    have k2 := HX0.out.cell (i := 2) rfl
    have k3 := HX0.out.cell (i := 3) rfl
    have k4 := HX0.out.cell (i := 4) rfl
    clear hok HX0 HR0 HB0
    go_wp2
    exact ret_whole2 rfl b2 rfl rfl HY.out Try.underlying30 rfl (by kernel_rfl) rfl HP.out
  · have hz0 : decide ((n : Int) < 32) = false := decide_eq_false (by omega)
    have h32 : 32 ≤ B.length := by rw [Hl.out]; omega
    obtain ⟨⟨x1, x2, x3, x4⟩, gx⟩ : ∃ z, h4V B = z := ⟨_, rfl⟩
    have Hx := Lib.hid gx
    clear gx
    go_upto_region 4 with fail
    have hR := HR0.out.al (.cells #[.int .i64 0, .int .i64 0, .int .i64 0, .int .i64 0, .slice none 0 0] 30)
    have hX := HX0.out.al (.cells #[.int .i64 0, .int .i64 0, .int .i64 0, .int .i64 0, .slice none 0 0] 30)
    have hB := bel_al HB0.out (.cells #[.int .i64 0, .int .i64 0, .int .i64 0, .int .i64 0, .slice none 0 0] 30)
    have hT : Whole (W0.alloc (.cells #[.int .i64 0, .int .i64 0, .int .i64 0, .int .i64 0, .slice none 0 0] 30)) W0.heap.size 30 [.int .i64 0, .int .i64 0, .int .i64 0, .int .i64 0, .slice none 0 0] := Whole.new_ W0 30 [.int .i64 0, .int .i64 0, .int .i64 0, .int .i64 0, .slice none 0 0]
    obtain ⟨W1, gW1⟩ : ∃ z, W0.alloc (.cells #[.int .i64 0, .int .i64 0, .int .i64 0, .int .i64 0, .slice none 0 0] 30) = z := ⟨_, rfl⟩
    have hlt4 : b2 < W0.heap.size := HX0.out.lt
    have hlw : w.heap.size ≤ W0.heap.size := HB0.out.size
    obtain ⟨bt, gbt⟩ : ∃ z, W0.heap.size = z := ⟨_, rfl⟩
    rw [gW1] at hR hX hB hT ⊢
    rw [gbt] at hT hlt4 hlw ⊢
    have HR := Lib.hid hR
    have HX := Lib.hid hX
    have HB := Lib.hid hB
    have HT := Lib.hid hT
    have N2t : RowKit.Hid (b2 ≠ bt) := Lib.hid (by omega)
    have Lbt : RowKit.Hid (w.heap.size ≤ bt) := Lib.hid hlw
    have HAf : RowKit.Hid (∀ a, A = some a → 0 < n → a.block ≠ bt) := Lib.hid (fun a ha h0 => by have := HR0.out.low a ha h0; omega)
    clear hR hX hB hT gW1 gbt hlt4 hlw HX0 HR0 HB0
    have ft := HT.out.free 0
    have kt := HT.out.cell (i := 0) rfl
    go_wp2_with fail
    refine (rtakenum_p A n c B _ (by omega) HR.out (by omega) Hb.out x1 (congrArg (fun z => z.1) Hx.out)).mono ?_
    rintro e w70 ⟨A70, n70, c70, rfl, hb70⟩
    have HTa := Lib.hid (HT.out.bl hb70)
    have HTb := Lib.hid (HTa.out.set_ 0 (.int .i64 x1))
    have HXb := Lib.hid ((HX.out.bl hb70).far (p := ⟨bt, 0, none⟩) (show b2 ≠ bt from N2t.out) (.int .i64 x1))
    have HRb : RowKit.Hid (RdS (w70.setCell ⟨bt, 0, none⟩ (.int .i64 x1)) (w70.setCell ⟨bt, 0, none⟩ (.int .i64 x1)).heap.size 1 A n c (rowsV f8 B)) := Lib.hid ((HR.out.bl hb70).far (p := ⟨bt, 0, none⟩) (fun h0 a ha => HAf.out a ha h0) (.int .i64 x1))
    have HBb := Lib.hid ((bel_bl HB.out hb70).setCell (p := ⟨bt, 0, none⟩) Lbt.out (.int .i64 x1))
    clear ft kt
    have ft := HTa.out.free 0
    have kt := HTa.out.cell (i := 0) rfl
    clear hb70 HT HX HR HB
    go_upto_region 5 with fail
    clear ft kt HTa
    obtain ⟨wz70, gwz⟩ : ∃ z, w70.setCell ⟨bt, 0, none⟩ (.int .i64 x1) = z := ⟨_, rfl⟩
    rw [gwz] at HTb HXb HRb HBb ⊢
    clear gwz
    have HT : RowKit.Hid (Whole wz70 bt 30 [.int .i64 x1, .int .i64 0, .int .i64 0, .int .i64 0, .slice none 0 0]) := Lib.hid HTb.out
    have HX := HXb
    have HR := HRb
    have HB := HBb
    clear HTb HXb HRb HBb
    have ft := HT.out.free 1
    have kt := HT.out.cell (i := 1) rfl
    obtain ⟨As, gAs⟩ : ∃ z, (if c = 8 then A else A.map (·.add (8 * 1))) = z := ⟨_, rfl⟩
    obtain ⟨cs, gcs⟩ : ∃ z, c - 8 = z := ⟨_, rfl⟩
    obtain ⟨m, gm⟩ : ∃ z, n - 8 = z := ⟨_, rfl⟩
    have hrs := rds_low8 HR.out (i := 8) (by omega) gm
    rw [gAs, gcs] at hrs
    have HRs := Lib.hid hrs
    have HAs := Lib.hid gAs
    have Hgm := Lib.hid gm
    have Hgc := Lib.hid gcs
    have Hk : RowKit.Hid (8 ≤ n ∧ m ≤ 100000 ∧ 8 ≤ (B.drop 8).length) := Lib.hid ⟨by omega, by omega, by rw [List.length_drop, Hl.out]; omega⟩
    clear hrs gAs gcs gm ft kt
    go_upto_region 5 with fail
    refine wp_region_lit ?_
    refine wl_read (v := ?_) (some 20) rfl (by rfl) ?_ ?_
    rotate_left
    · go_simp; (try with_reducible rfl)
    simp only [Act.put, stA_, st0_, st1_]
    refine wl_run (some 21) rfl (by rfl) (exec_slice_low_as 23 5 (.tmp 20) (.const (.int .i64 8)) rfl Try.underlying23 (s := 1) (by kernel_rfl) rfl rfl Hk.out.1 HAs.out Hgm.out Hgc.out) ?_
    simp only [Act.put, stA_, st0_, st1_]
    go_wp2_with fail
    refine (rtakenum_p As m cs (B.drop 8) _ Hk.out.2.2 HRs.out Hk.out.2.1 (drop_lt Hb.out 8) x2 (congrArg (fun z => z.2.1) Hx.out)).mono ?_
    rintro e w71 ⟨A71, n71, c71, rfl, hb71⟩
    have HTa := Lib.hid (HT.out.bl hb71)
    have HTb := Lib.hid (HTa.out.set_ 1 (.int .i64 x2))
    have HXb := Lib.hid ((HX.out.bl hb71).far (p := ⟨bt, 1, none⟩) (show b2 ≠ bt from N2t.out) (.int .i64 x2))
    have HRb : RowKit.Hid (RdS (w71.setCell ⟨bt, 1, none⟩ (.int .i64 x2)) (w71.setCell ⟨bt, 1, none⟩ (.int .i64 x2)).heap.size 1 A n c (rowsV f8 B)) := Lib.hid ((HR.out.bl hb71).far (p := ⟨bt, 1, none⟩) (fun h0 a ha => HAf.out a ha h0) (.int .i64 x2))
    have HBb := Lib.hid ((bel_bl HB.out hb71).setCell (p := ⟨bt, 1, none⟩) Lbt.out (.int .i64 x2))
    have ft := HTa.out.free 1
    have kt := HTa.out.cell (i := 1) rfl
    clear hb71 HT HX HR HB HRs HAs Hgm Hgc Hk
    go_upto_region 6 with fail
    clear ft kt HTa
    obtain ⟨wz71, gwz⟩ : ∃ z, w71.setCell ⟨bt, 1, none⟩ (.int .i64 x2) = z := ⟨_, rfl⟩
    rw [gwz] at HTb HXb HRb HBb ⊢
    clear gwz
    have HT : RowKit.Hid (Whole wz71 bt 30 [.int .i64 x1, .int .i64 x2, .int .i64 0, .int .i64 0, .slice none 0 0]) := Lib.hid HTb.out
    have HX := HXb
    have HR := HRb
    have HB := HBb
    clear HTb HXb HRb HBb
    have ft := HT.out.free 2
    have kt := HT.out.cell (i := 2) rfl
    obtain ⟨As, gAs⟩ : ∃ z, (if c = 16 then A else A.map (·.add (16 * 1))) = z := ⟨_, rfl⟩
    obtain ⟨cs, gcs⟩ : ∃ z, c - 16 = z := ⟨_, rfl⟩
    obtain ⟨m, gm⟩ : ∃ z, n - 16 = z := ⟨_, rfl⟩
    have hrs := rds_low8 HR.out (i := 16) (by omega) gm
    rw [gAs, gcs] at hrs
    have HRs := Lib.hid hrs
    have HAs := Lib.hid gAs
    have Hgm := Lib.hid gm
    have Hgc := Lib.hid gcs
    have Hk : RowKit.Hid (16 ≤ n ∧ m ≤ 100000 ∧ 8 ≤ (B.drop 16).length) := Lib.hid ⟨by omega, by omega, by rw [List.length_drop, Hl.out]; omega⟩
    clear hrs gAs gcs gm ft kt
    go_upto_region 6 with fail
    refine wp_region_lit ?_
    refine wl_read (v := ?_) (some 28) rfl (by rfl) ?_ ?_
    rotate_left
    · go_simp; (try with_reducible rfl)
    simp only [Act.put, stA_, st0_, st1_]
    refine wl_run (some 29) rfl (by rfl) (exec_slice_low_as 23 5 (.tmp 28) (.const (.int .i64 16)) rfl Try.underlying23 (s := 1) (by kernel_rfl) rfl rfl Hk.out.1 HAs.out Hgm.out Hgc.out) ?_
    simp only [Act.put, stA_, st0_, st1_]
    go_wp2_with fail
    refine (rtakenum_p As m cs (B.drop 16) _ Hk.out.2.2 HRs.out Hk.out.2.1 (drop_lt Hb.out 16) x3 (congrArg (fun z => z.2.2.1) Hx.out)).mono ?_
    rintro e w72 ⟨A72, n72, c72, rfl, hb72⟩
    have HTa := Lib.hid (HT.out.bl hb72)
    have HTb := Lib.hid (HTa.out.set_ 2 (.int .i64 x3))
    have HXb := Lib.hid ((HX.out.bl hb72).far (p := ⟨bt, 2, none⟩) (show b2 ≠ bt from N2t.out) (.int .i64 x3))
    have HRb : RowKit.Hid (RdS (w72.setCell ⟨bt, 2, none⟩ (.int .i64 x3)) (w72.setCell ⟨bt, 2, none⟩ (.int .i64 x3)).heap.size 1 A n c (rowsV f8 B)) := Lib.hid ((HR.out.bl hb72).far (p := ⟨bt, 2, none⟩) (fun h0 a ha => HAf.out a ha h0) (.int .i64 x3))
    have HBb := Lib.hid ((bel_bl HB.out hb72).setCell (p := ⟨bt, 2, none⟩) Lbt.out (.int .i64 x3))
    have ft := HTa.out.free 2
    have kt := HTa.out.cell (i := 2) rfl
    clear hb72 HT HX HR HB HRs HAs Hgm Hgc Hk
    go_upto_region 7 with fail
    clear ft kt HTa
    obtain ⟨wz72, gwz⟩ : ∃ z, w72.setCell ⟨bt, 2, none⟩ (.int .i64 x3) = z := ⟨_, rfl⟩
    rw [gwz] at HTb HXb HRb HBb ⊢
    clear gwz
    have HT : RowKit.Hid (Whole wz72 bt 30 [.int .i64 x1, .int .i64 x2, .int .i64 x3, .int .i64 0, .slice none 0 0]) := Lib.hid HTb.out
    have HX := HXb
    have HR := HRb
    have HB := HBb
    clear HTb HXb HRb HBb
    have ft := HT.out.free 3
    have kt := HT.out.cell (i := 3) rfl
    obtain ⟨As, gAs⟩ : ∃ z, (if c = 24 then A else A.map (·.add (24 * 1))) = z := ⟨_, rfl⟩
    obtain ⟨cs, gcs⟩ : ∃ z, c - 24 = z := ⟨_, rfl⟩
    obtain ⟨m, gm⟩ : ∃ z, n - 24 = z := ⟨_, rfl⟩
    have hrs := rds_low8 HR.out (i := 24) (by omega) gm
    rw [gAs, gcs] at hrs
    have HRs := Lib.hid hrs
    have HAs := Lib.hid gAs
    have Hgm := Lib.hid gm
    have Hgc := Lib.hid gcs
    have Hk : RowKit.Hid (24 ≤ n ∧ m ≤ 100000 ∧ 8 ≤ (B.drop 24).length) := Lib.hid ⟨by omega, by omega, by rw [List.length_drop, Hl.out]; omega⟩
    clear hrs gAs gcs gm ft kt
    go_upto_region 7 with fail
    refine wp_region_lit ?_
    refine wl_read (v := ?_) (some 36) rfl (by rfl) ?_ ?_
    rotate_left
    · go_simp; (try with_reducible rfl)
    simp only [Act.put, stA_, st0_, st1_]
    refine wl_run (some 37) rfl (by rfl) (exec_slice_low_as 23 5 (.tmp 36) (.const (.int .i64 24)) rfl Try.underlying23 (s := 1) (by kernel_rfl) rfl rfl Hk.out.1 HAs.out Hgm.out Hgc.out) ?_
    simp only [Act.put, stA_, st0_, st1_]
    go_wp2_with fail
    refine (rtakenum_p As m cs (B.drop 24) _ Hk.out.2.2 HRs.out Hk.out.2.1 (drop_lt Hb.out 24) x4 (congrArg (fun z => z.2.2.2) Hx.out)).mono ?_
    rintro e w73 ⟨A73, n73, c73, rfl, hb73⟩
    have HTa := Lib.hid (HT.out.bl hb73)
    have HTb := Lib.hid (HTa.out.set_ 3 (.int .i64 x4))
    have HXb := Lib.hid ((HX.out.bl hb73).far (p := ⟨bt, 3, none⟩) (show b2 ≠ bt from N2t.out) (.int .i64 x4))
    have HRb : RowKit.Hid (RdS (w73.setCell ⟨bt, 3, none⟩ (.int .i64 x4)) (w73.setCell ⟨bt, 3, none⟩ (.int .i64 x4)).heap.size 1 A n c (rowsV f8 B)) := Lib.hid ((HR.out.bl hb73).far (p := ⟨bt, 3, none⟩) (fun h0 a ha => HAf.out a ha h0) (.int .i64 x4))
    have HBb := Lib.hid ((bel_bl HB.out hb73).setCell (p := ⟨bt, 3, none⟩) Lbt.out (.int .i64 x4))
    have ft := HTa.out.free 3
    have kt := HTa.out.cell (i := 3) rfl
    clear hb73 HT HX HR HB HRs HAs Hgm Hgc Hk
    go_upto_region 8 with fail
    clear ft kt HTa
    obtain ⟨wz73, gwz⟩ : ∃ z, w73.setCell ⟨bt, 3, none⟩ (.int .i64 x4) = z := ⟨_, rfl⟩
    rw [gwz] at HTb HXb HRb HBb ⊢
    clear gwz
    have HT : RowKit.Hid (Whole wz73 bt 30 [.int .i64 x1, .int .i64 x2, .int .i64 x3, .int .i64 x4, .slice none 0 0]) := Lib.hid HTb.out
    have HX := HXb
    have HR := HRb
    have HB := HBb
    clear HTb HXb HRb HBb
    obtain ⟨wz, gwz⟩ : ∃ z, wz73 = z := ⟨_, rfl⟩
    rw [gwz] at HT HX HR HB ⊢
    clear gwz h32 HAf
    by_cases h32 : n = 32
    · have ho := okS_head (Hl.out.trans h32)
      have hv : tkS B = ((x1, x2, x3, x4), []) ∧ tkSE B = 0 := by
        have := tk_yes ho.1
        rw [ho.2, Hx.out] at this
        exact this
      have HY := Lib.hid (((((HX.out.set_ 0 (.int .i64 x1)).set_ 1 (.int .i64 x2)).set_ 2 (.int .i64 x3)).set_ 3 (.int .i64 x4)).set_ 4 (.slice none 0 0))
      have HP : RowKit.Hid (GivesS w (tkS B) (tkSE B) (.returned (.tuple #[.agg #[.int .i64 x1, .int .i64 x2, .int .i64 x3, .int .i64 x4, .slice none 0 0], .int .i64 0])) ((((((wz.setCell ⟨b2, 0, none⟩ (.int .i64 x1)).setCell ⟨b2, 1, none⟩ (.int .i64 x2)).setCell ⟨b2, 2, none⟩ (.int .i64 x3)).setCell ⟨b2, 3, none⟩ (.int .i64 x4)).setCell ⟨b2, 4, none⟩ (.slice none 0 0)))) := Lib.hid (by
        rw [hv.1, hv.2]
        exact ⟨none, 0, 0, rfl, rfl, World.ownsRow_nil _ _ _ _, (((((HB.out.setCell (p := ⟨b2, 0, none⟩) Lb2.out (.int .i64 x1)).setCell (p := ⟨b2, 1, none⟩) Lb2.out (.int .i64 x2)).setCell (p := ⟨b2, 2, none⟩) Lb2.out (.int .i64 x3)).setCell (p := ⟨b2, 3, none⟩) Lb2.out (.int .i64 x4)).setCell (p := ⟨b2, 4, none⟩) Lb2.out (.slice none 0 0))⟩)
      have f0 := HX.out.free 0
      have f1 := HX.out.free 1
      have f2 := HX.out.free 2
      have f3 := HX.out.free 3
      have f4 := HX.out.free 4
      have k0 := HX.out.cell (i := 0) rfl
      have k1 := HX.out.cell (i := 1) rfl
      have k2 := HX.out.cell (i := 2) rfl
      have k3 := HX.out.cell (i := 3) rfl
      have k4 := HX.out.cell (i := 4) rfl
      have t0 := HT.out.cell (i := 0) rfl
      have t1 := HT.out.cell (i := 1) rfl
      have t2 := HT.out.cell (i := 2) rfl
      have t3 := HT.out.cell (i := 3) rfl
      have t4 := HT.out.cell (i := 4) rfl
      have hz1 : ((n : Int) == 32) = true := by rw [h32]; rfl
      clear ho hv HX HT HR HB h32
      go_wp2
      exact ret_whole2 rfl b2 rfl rfl HY.out Try.underlying30 rfl (by kernel_rfl) rfl HP.out
    · have hz1 : ((n : Int) == 32) = false := beq_eq_false_iff_ne.2 (by omega)
      have hgt : 32 < B.length := by rw [Hl.out]; omega
      obtain ⟨m, gm⟩ : ∃ z, n - 32 = z := ⟨_, rfl⟩
      obtain ⟨As, gAs⟩ : ∃ z, (if c = 32 then A else A.map (·.add (32 * 1))) = z := ⟨_, rfl⟩
      obtain ⟨cs, gcs⟩ : ∃ z, c - 32 = z := ⟨_, rfl⟩
      have hrs := rds_low8 HR.out (by omega) gm
      rw [gAs, gcs] at hrs
      have HRs := Lib.hid hrs
      have HL2 : RowKit.Hid ((B.drop 32).length = m) := Lib.hid (by rw [List.length_drop, Hl.out]; exact gm)
      have Hm9 : RowKit.Hid (m ≤ 90000) := Lib.hid (by omega)
      have Hok := Lib.hid (okS_long hgt)
      have HAs := Lib.hid gAs
      have Hgm := Lib.hid gm
      have Hgc := Lib.hid gcs
      have H32 : RowKit.Hid (32 ≤ n) := Lib.hid (by omega)
      clear hrs gAs gm gcs h32
      go_upto_region 10 with fail
      refine wp_region_lit ?_
      refine wl_read (v := ?_) (some 48) rfl (by rfl) ?_ ?_
      rotate_left
      · go_simp; (try with_reducible rfl)
      simp only [Act.put, stA_, st0_, st1_]
      refine wl_run (some 49) rfl (by rfl) (exec_slice_low_as 23 5 (.tmp 48) (.const (.int .i64 32)) rfl Try.underlying23 (s := 1) (by kernel_rfl) rfl rfl H32.out HAs.out Hgm.out Hgc.out) ?_
      simp only [Act.put, stA_, st0_, st1_]
      go_wp2_with fail
      refine (rwhole10_any As m cs (B.drop 32) _ HL2.out HRs.out Hm9.out (drop_lt Hb.out 32)).mono ?_
      rintro e w5 ⟨A5, c5, rfl, ho5, hb5⟩
      have HX5 := Lib.hid ((HX.out.bl hb5).al (.cells #[.slice A5 (whV (B.drop 32)).length c5] 28))
      have HT5 := Lib.hid ((HT.out.bl hb5).al (.cells #[.slice A5 (whV (B.drop 32)).length c5] 28))
      have HB5 := Lib.hid (bel_al (bel_bl HB.out hb5) (.cells #[.slice A5 (whV (B.drop 32)).length c5] 28))
      have HO5 := Lib.hid (own_up ho5 (below1 w5 (.cells #[.slice A5 (whV (B.drop 32)).length c5] 28)))
      have HE5 : RowKit.Hid (Whole (w5.alloc (.cells #[.slice A5 (whV (B.drop 32)).length c5] 28)) w5.heap.size 28 [.slice A5 (whV (B.drop 32)).length c5]) := Lib.hid (Whole.new_ _ _ [_])
      have Lw5 : RowKit.Hid (wz.heap.size ≤ w5.heap.size) := Lib.hid hb5.size
      have Lz : RowKit.Hid (b2 < wz.heap.size ∧ bt < wz.heap.size ∧ w.heap.size ≤ wz.heap.size) := Lib.hid ⟨HX.out.lt, HT.out.lt, HB.out.size⟩
      clear ho5 hb5 HX HT HB HR HRs
      have N2 : RowKit.Hid (some b2 ≠ (Value.slice A5 (whV (B.drop 32)).length c5).ownBlock) := Lib.hid (fun e => by have := (HO5.out.lt b2 e.symm).1; have := Lz.out; have := Lw5.out; omega)
      have Nt : RowKit.Hid (some bt ≠ (Value.slice A5 (whV (B.drop 32)).length c5).ownBlock) := Lib.hid (fun e => by have := (HO5.out.lt bt e.symm).1; have := Lz.out; have := Lw5.out; omega)
      obtain ⟨W5, gW5⟩ : ∃ z, w5.alloc (.cells #[.slice A5 (whV (B.drop 32)).length c5] 28) = z := ⟨_, rfl⟩
      obtain ⟨b5, gb5⟩ : ∃ z, w5.heap.size = z := ⟨_, rfl⟩
      cases hw : okW (B.drop 32) with
      | false =>
        have he : whE (B.drop 32) = 2 := whE_no hw
        have hok : okS B = false := by rw [Hok.out, hw]
        obtain ⟨l, gl⟩ : ∃ z, (whV (B.drop 32)).length = z := ⟨_, rfl⟩
        rw [gl] at HX5 HT5 HB5 HO5 HE5 gW5 ⊢
        rw [he]
        have HX := Lib.hid (gW5 ▸ HX5.out)
        have HBz := Lib.hid (gW5 ▸ HB5.out)
        have HY := Lib.hid (((((HX.out.set_ 0 (.int .i64 0)).set_ 1 (.int .i64 0)).set_ 2 (.int .i64 0)).set_ 3 (.int .i64 0)).set_ 4 (.slice none 0 0))
        have HP : RowKit.Hid (GivesS w (tkS B) (tkSE B) (.returned (.tuple #[.agg #[.int .i64 0, .int .i64 0, .int .i64 0, .int .i64 0, .slice none 0 0], .int .i64 240])) ((((((W5.setCell ⟨b2, 0, none⟩ (.int .i64 0)).setCell ⟨b2, 1, none⟩ (.int .i64 0)).setCell ⟨b2, 2, none⟩ (.int .i64 0)).setCell ⟨b2, 3, none⟩ (.int .i64 0)).setCell ⟨b2, 4, none⟩ (.slice none 0 0)))) := Lib.hid (gives_no hok (((((HBz.out.setCell (p := ⟨b2, 0, none⟩) Lb2.out (.int .i64 0)).setCell (p := ⟨b2, 1, none⟩) Lb2.out (.int .i64 0)).setCell (p := ⟨b2, 2, none⟩) Lb2.out (.int .i64 0)).setCell (p := ⟨b2, 3, none⟩) Lb2.out (.int .i64 0)).setCell (p := ⟨b2, 4, none⟩) Lb2.out (.slice none 0 0)))
        have f0 := HX.out.free 0
        have f1 := HX.out.free 1
        have f2 := HX.out.free 2
        have f3 := HX.out.free 3
        have f4 := HX.out.free 4
        have k0 := HX.out.cell (i := 0) rfl
        have k1 := HX.out.cell (i := 1) rfl
        have k2 := HX.out.cell (i := 2) rfl
        have k3 := HX.out.cell (i := 3) rfl
        have k4 := HX.out.cell (i := 4) rfl
        clear he hok hw gl HX5 HT5 HB5 HO5 HE5
        go_upto_region 11 with fail
        clear gW5 gb5
        go_wp2
        exact ret_whole2 rfl b2 rfl rfl HY.out Try.underlying30 rfl (by kernel_rfl) rfl HP.out
      | true =>
        have he : whE (B.drop 32) = 0 := by unfold whE; rw [hw]; rfl
        have hok : okS B = true := by rw [Hok.out, hw]
        have hv : tkS B = ((x1, x2, x3, x4), whV (B.drop 32)) ∧ tkSE B = 0 := by
          have := tk_yes hok
          rw [Hx.out] at this
          exact this
        rw [he]
        obtain ⟨V, gV⟩ : ∃ z, whV (B.drop 32) = z := ⟨_, rfl⟩
        rw [gV] at HX5 HT5 HB5 HO5 HE5 gW5 hv N2 Nt ⊢
        obtain ⟨l, gl⟩ : ∃ z, V.length = z := ⟨_, rfl⟩
        rw [gl] at HX5 HT5 HB5 HO5 HE5 gW5 N2 Nt ⊢
        rw [gW5] at HX5 HT5 HB5 HO5 HE5
        rw [gb5] at HE5
        have HT6 := Lib.hid (HT5.out.set_ 4 (.slice A5 l c5))
        have HX6 := Lib.hid (HX5.out.far (p := ⟨bt, 4, none⟩) (show b2 ≠ bt from N2t.out) (.slice A5 l c5))
        have HO6 := Lib.hid (own_cell_far HO5.out (i := 4) Nt.out (.slice A5 l c5))
        have HB6 := Lib.hid (HB5.out.setCell (p := ⟨bt, 4, none⟩) Lbt.out (.slice A5 l c5))
        have ft := HT5.out.free 4
        have kt := HT5.out.cell (i := 4) rfl
        have ke := HE5.out.cell (i := 0) rfl
        go_upto_region 13 with fail
        clear gW5 gb5
        go_upto_region 14 with fail
        clear ft kt ke
        obtain ⟨W6, gW6⟩ : ∃ z, W5.setCell ⟨bt, 4, none⟩ (.slice A5 l c5) = z := ⟨_, rfl⟩
        rw [gW6] at HT6 HX6 HO6 HB6 ⊢
        clear gW6
        have HY := Lib.hid (((((HX6.out.set_ 0 (.int .i64 x1)).set_ 1 (.int .i64 x2)).set_ 2 (.int .i64 x3)).set_ 3 (.int .i64 x4)).set_ 4 (.slice A5 l c5))
        have HP : RowKit.Hid (GivesS w (tkS B) (tkSE B) (.returned (.tuple #[.agg #[.int .i64 x1, .int .i64 x2, .int .i64 x3, .int .i64 x4, .slice A5 l c5], .int .i64 0])) ((((((W6.setCell ⟨b2, 0, none⟩ (.int .i64 x1)).setCell ⟨b2, 1, none⟩ (.int .i64 x2)).setCell ⟨b2, 2, none⟩ (.int .i64 x3)).setCell ⟨b2, 3, none⟩ (.int .i64 x4)).setCell ⟨b2, 4, none⟩ (.slice A5 l c5)))) := Lib.hid (by
          rw [hv.1, hv.2]
          exact ⟨A5, l, c5, rfl, gl.symm, own_lo8 (own_cell_far (own_cell_far (own_cell_far (own_cell_far (own_cell_far HO6.out (i := 0) N2.out (.int .i64 x1)) (i := 1) N2.out (.int .i64 x2)) (i := 2) N2.out (.int .i64 x3)) (i := 3) N2.out (.int .i64 x4)) (i := 4) N2.out (.slice A5 l c5)) (by have := Lz.out; have := Lw5.out; omega), (((((HB6.out.setCell (p := ⟨b2, 0, none⟩) Lb2.out (.int .i64 x1)).setCell (p := ⟨b2, 1, none⟩) Lb2.out (.int .i64 x2)).setCell (p := ⟨b2, 2, none⟩) Lb2.out (.int .i64 x3)).setCell (p := ⟨b2, 3, none⟩) Lb2.out (.int .i64 x4)).setCell (p := ⟨b2, 4, none⟩) Lb2.out (.slice A5 l c5))⟩)
        have f0 := HX6.out.free 0
        have f1 := HX6.out.free 1
        have f2 := HX6.out.free 2
        have f3 := HX6.out.free 3
        have f4 := HX6.out.free 4
        have k0 := HX6.out.cell (i := 0) rfl
        have k1 := HX6.out.cell (i := 1) rfl
        have k2 := HX6.out.cell (i := 2) rfl
        have k3 := HX6.out.cell (i := 3) rfl
        have k4 := HX6.out.cell (i := 4) rfl
        have t0 := HT6.out.cell (i := 0) rfl
        have t1 := HT6.out.cell (i := 1) rfl
        have t2 := HT6.out.cell (i := 2) rfl
        have t3 := HT6.out.cell (i := 3) rfl
        have t4 := HT6.out.cell (i := 4) rfl
        clear he hok hw gV gl hv HX5 HT5 HB5 HO5 HE5 HX6 HT6 HO6 HB6
        go_wp2
        exact ret_whole2 rfl b2 rfl rfl HY.out Try.underlying30 rfl (by kernel_rfl) rfl HP.out
end Go.Proofs.Ytinfbaflkjghhaa
/- Rows of steps, and the document's Same of them. -/
namespace Go.Proofs.Ytinfbaflkjghhaa
open Go.RowKit
/-- A step as it stands in memory. -/
structure StOk (W : World) (s : StT) : Prop where
  ops : RdS W W.heap.size 20 s.2.1 s.2.2.1 s.2.2.2.1 (rowsV opCells s.2.2.2.2)
  few : s.2.2.1 ≤ 1000000
  txt : ∀ o ∈ s.2.2.2.2, o.t.size ≤ maxLen
  hd : In4 s.1
theorem StOk.bl {W W' : World} {s : StT} (h : StOk W s) (hb : Below W.heap.size W W') : StOk W' s := ⟨h.ops.bl hb, h.few, h.txt, h.hd⟩
structure StRd (W : World) (A : Option Addr) (n c : Nat) (Ls : List StT) : Prop where
  row : RdS W W.heap.size 5 A n c (rowsV stC Ls)
  each : ∀ s ∈ Ls, StOk W s
theorem StRd.bl {W W' : World} {A : Option Addr} {n c : Nat} {Ls : List StT} (h : StRd W A n c Ls) (hb : Below W.heap.size W W') : StRd W' A n c Ls := ⟨h.row.bl hb, fun s hs => (h.each s hs).bl hb⟩
theorem map_take_snoc {α β : Type} (f : α → β) {L M : List α} {j : Nat} {x y : α} (hx : L[j]? = some x) (hy : M[j]? = some y) (h : (L.take j).map f = (M.take j).map f) (e : f x = f y) : (L.take (j + 1)).map f = (M.take (j + 1)).map f := by
  rw [List.take_add_one, List.take_add_one, hx, hy, List.map_append, List.map_append, h]
  simp [e]
theorem map_ne_at {α β : Type} (f : α → β) {L M : List α} {j : Nat} {x y : α} (hx : L[j]? = some x) (hy : M[j]? = some y) (e : ¬ f x = f y) : ¬ L.map f = M.map f := fun q => e (by
  have := congrArg (fun l => l[j]?) q
  simpa [hx, hy] using this)
set_option maxRecDepth 100000 in
set_option maxHeartbeats 4000000 in
theorem rsame23_any (A : Option Addr) (n c : Nat) (Ls : List StT) (A' : Option Addr) (n' c' : Nat) (Ms : List StT) (w : World) (h : StRd w A n c Ls) (h' : StRd w A' n' c' Ms) (hn : n ≤ 1000000) :
    Calls Try.prog 12 #[.slice A n c, .slice A' n' c'] w fun e w' => e = .returned (.bool (decide (Ls.map sdT = Ms.map sdT))) ∧ Below w.heap.size w w' := by
  have H := Lib.hid h
  have H' := Lib.hid h'
  have Hl := Lib.hid (h.row.rlen stC_len (by decide))
  have Hl' := Lib.hid (h'.row.rlen stC_len (by decide))
  have HB0 : RowKit.Hid (Below w.heap.size w w) := Lib.hid (Below.refl _ _)
  clear h h'
  by_cases hnn : n = n'
  · subst hnn
    obtain ⟨R, gR⟩ : ∃ z, decide (Ls.map sdT = Ms.map sdT) = z := ⟨_, rfl⟩
    have Hdec := Lib.hid gR
    rw [gR]
    clear gR
    go_enter Try.func12, Try.ntmps12
    go_wp2
    go_loopw [5] (fun si wr => ∃ j : Nat, j ≤ n ∧ si = .int .i64 j ∧ RowKit.Hid (Below w.heap.size w wr) ∧ RowKit.Hid ((Ls.take j).map sdT = (Ms.take j).map sdT)) (fun si _ => n - (intOf si).toNat)
    case atStart => exact ⟨0, by omega, rfl, HB0, Lib.hid rfl⟩
    case round =>
      clear HB0
      obtain ⟨j, hj, rfl, HB, HP⟩ := hrel
      obtain ⟨wo, gwo⟩ : ∃ z, wr = z := ⟨_, rfl⟩
      rw [gwo] at HB ⊢
      clear gwo
      by_cases hjn : j < n
      · obtain ⟨x, hx⟩ : ∃ x, Ls[j]? = some x := ⟨_, List.getElem?_eq_getElem (by have := Hl.out; omega)⟩
        obtain ⟨y, hy⟩ : ∃ y, Ms[j]? = some y := ⟨_, List.getElem?_eq_getElem (by have := Hl'.out; omega)⟩
        have hox := (H.out.each x (List.mem_of_getElem? hx)).bl HB.out
        have hoy := (H'.out.each y (List.mem_of_getElem? hy)).bl HB.out
        obtain ⟨bb, off, rfl, hbB, hpl⟩ := (H.out.row.bl HB.out).place stC_len (by decide) (by omega)
        obtain ⟨bb2, off2, rfl, hbB2, hpl2⟩ := (H'.out.row.bl HB.out).place stC_len (by decide) (by omega)
        obtain ⟨⟨k1, k2, k3, k4⟩, Ax, nx, cx, La⟩ := x
        obtain ⟨⟨l1, l2, l3, l4⟩, Ay, ny, cy, Lb⟩ := y
        have a0 := hpl j _ hx 0 _ rfl
        have a1 := hpl j _ hx 1 _ rfl
        have a2 := hpl j _ hx 2 _ rfl
        have a3 := hpl j _ hx 3 _ rfl
        have a4 := hpl j _ hx 4 _ rfl
        have b0 := hpl2 j _ hy 0 _ rfl
        have b1 := hpl2 j _ hy 1 _ rfl
        have b2 := hpl2 j _ hy 2 _ rfl
        have b3 := hpl2 j _ hy 3 _ rfl
        have b4 := hpl2 j _ hy 4 _ rfl
        simp only [Addr.add_lit, Nat.add_zero] at a0 a1 a2 a3 a4 b0 b1 b2 b3 b4
        have HSm : RowKit.Hid (∀ w', Ext wo.drew w' → Calls Try.prog 24 #[.agg #[.slice Ax nx cx], .agg #[.slice Ay ny cy]] w' fun e w'' => e = .returned (.bool (decide (La = Lb))) ∧ Below w'.heap.size w' w'') := Lib.hid (fun w' hw' => rsame_any Ax Ay nx ny cx cy La Lb w' ((hox.ops.bl (bel_dr (Below.refl wo.heap.size wo))).bl hw') ((hoy.ops.bl (bel_dr (Below.refl wo.heap.size wo))).bl hw') (by have h9 : nx ≤ 1000000 := hox.few; unfold maxLen; omega))
        have HX := Lib.hid hx
        have HY := Lib.hid hy
        have hltI : (j : Int) < (n : Int) := by omega
        clear hx hy hpl hpl2 hox hoy
        go_upto_region 6 with fail
        have ld0 : ∀ w', Kept Nil_ wo.drew w' → w'.cell? ⟨bb, off + j * 5 + 4, none⟩ = some (.slice Ax nx cx) := fun w' h => h.nil_cell a4
        have ld1 : ∀ w', Kept Nil_ wo.drew w' → w'.cell? ⟨bb2, off2 + j * 5 + 4, none⟩ = some (.slice Ay ny cy) := fun w' h => h.nil_cell b4
        obtain ⟨eo', geo⟩ : ∃ z, decide (La = Lb) = z := ⟨_, rfl⟩
        rw [geo] at HSm
        have Geo := Lib.hid geo
        clear geo
        refine wp_region_reg (Nil_) (by kernel_rfl) ?_
        refine opR_ 0 18 (v := ?_) ?_ ?_; rotate_left
        · intro w' hw'; go_simp; (try with_reducible rfl)
        simp only [st0_, st1_]
        refine opR_ 1 19 (v := ?_) ?_ ?_; rotate_left
        · intro w' hw'; go_simp; (try with_reducible rfl)
        simp only [st0_, st1_]
        refine opR_ 2 20 (v := ?_) ?_ ?_; rotate_left
        · intro w' hw'; go_simp; (try with_reducible rfl)
        simp only [st0_, st1_]
        refine opR_ 3 21 (v := ?_) ?_ ?_; rotate_left
        · intro w' hw'; go_simp; (try with_reducible rfl)
        simp only [st0_, st1_]
        refine opR_ 4 22 (v := ?_) ?_ ?_; rotate_left
        · intro w' hw'; go_simp; (try with_reducible rfl)
        simp only [st0_, st1_]
        refine opR_ 5 23 (v := ?_) ?_ ?_; rotate_left
        · intro w' hw'; go_simp; (try with_reducible rfl)
        simp only [st0_, st1_]
        refine opR_ 6 24 (v := ?_) ?_ ?_; rotate_left
        · intro w' hw'; go_simp; (try with_reducible rfl)
        simp only [st0_, st1_]
        refine opR_ 7 25 (v := ?_) ?_ ?_; rotate_left
        · intro w' hw'; go_simp; (try with_reducible rfl)
        simp only [st0_, st1_]
        refine opR_ 8 26 (v := ?_) ?_ ?_; rotate_left
        · intro w' hw'; go_simp; (try with_reducible rfl)
        simp only [st0_, st1_]
        refine opR_ 9 27 (v := ?_) ?_ ?_; rotate_left
        · intro w' hw'; go_simp; (try with_reducible rfl)
        simp only [st0_, st1_]
        refine opX_ 10 28 ?_
        apply Exists.intro
        apply And.intro
        · apply yr_call; rfl; rotate_left; intro w' hw'; exact HSm.out w' (hw'.ext_nil); intro w'; go_simp
        simp only [st0_, st1_]
        refine opR_ 11 6 (v := ?_) ?_ ?_; rotate_left
        · intro w' hw'; go_simp; (try with_reducible rfl)
        simp only [st0_, st1_]
        refine wpR_done (by kernel_rfl) ?_ _
        intro W3 hw3
        have hw4 := bel_bl (bel_dr (Below.refl wo.heap.size wo)) hw3
        have HB3 := Lib.hid (bel_bl HB.out hw4)
        have HbB := Lib.hid (show bb < wo.heap.size from hbB)
        have HbB2 := Lib.hid (show bb2 < wo.heap.size from hbB2)
        replace a0 := (hw4.cell (p := ⟨bb, off + j * 5, none⟩) HbB.out).trans a0
        replace a1 := (hw4.cell (p := ⟨bb, off + j * 5 + 1, none⟩) HbB.out).trans a1
        replace a2 := (hw4.cell (p := ⟨bb, off + j * 5 + 2, none⟩) HbB.out).trans a2
        replace a3 := (hw4.cell (p := ⟨bb, off + j * 5 + 3, none⟩) HbB.out).trans a3
        replace b0 := (hw4.cell (p := ⟨bb2, off2 + j * 5, none⟩) HbB2.out).trans b0
        replace b1 := (hw4.cell (p := ⟨bb2, off2 + j * 5 + 1, none⟩) HbB2.out).trans b1
        replace b2 := (hw4.cell (p := ⟨bb2, off2 + j * 5 + 2, none⟩) HbB2.out).trans b2
        replace b3 := (hw4.cell (p := ⟨bb2, off2 + j * 5 + 3, none⟩) HbB2.out).trans b3
        clear hw3 hw4 HB a4 b4 ld0 ld1 HSm hbB hbB2 HbB HbB2
        obtain ⟨wq, gwq⟩ : ∃ z, W3 = z := ⟨_, rfl⟩
        rw [gwq] at HB3 a0 a1 a2 a3 b0 b1 b2 b3 ⊢
        clear gwq
        go_upto_region 7 with fail
        have la0 : ∀ w', Kept Nil_ wq.drew w' → w'.cell? ⟨bb, off + j * 5, none⟩ = some (.int .i64 k1) := fun w' h => h.nil_cell (a0)
        have la1 : ∀ w', Kept Nil_ wq.drew w' → w'.cell? ⟨bb, off + j * 5 + 1, none⟩ = some (.int .i64 k2) := fun w' h => h.nil_cell (a1)
        have la2 : ∀ w', Kept Nil_ wq.drew w' → w'.cell? ⟨bb, off + j * 5 + 2, none⟩ = some (.int .i64 k3) := fun w' h => h.nil_cell (a2)
        have la3 : ∀ w', Kept Nil_ wq.drew w' → w'.cell? ⟨bb, off + j * 5 + 3, none⟩ = some (.int .i64 k4) := fun w' h => h.nil_cell (a3)
        have lb0 : ∀ w', Kept Nil_ wq.drew w' → w'.cell? ⟨bb2, off2 + j * 5, none⟩ = some (.int .i64 l1) := fun w' h => h.nil_cell (b0)
        have lb1 : ∀ w', Kept Nil_ wq.drew w' → w'.cell? ⟨bb2, off2 + j * 5 + 1, none⟩ = some (.int .i64 l2) := fun w' h => h.nil_cell (b1)
        have lb2 : ∀ w', Kept Nil_ wq.drew w' → w'.cell? ⟨bb2, off2 + j * 5 + 2, none⟩ = some (.int .i64 l3) := fun w' h => h.nil_cell (b2)
        have lb3 : ∀ w', Kept Nil_ wq.drew w' → w'.cell? ⟨bb2, off2 + j * 5 + 3, none⟩ = some (.int .i64 l4) := fun w' h => h.nil_cell (b3)
        clear a0 a1 a2 a3 b0 b1 b2 b3
        by_cases e0 : k1 = l1
        · by_cases e1 : k2 = l2
          · by_cases e2 : k3 = l3
            · by_cases e3 : k4 = l4
              · by_cases eo : La = Lb
                · obtain rfl : true = eo' := (decide_eq_true eo).symm.trans Geo.out
                  have q0 : ((k1 : Int) != l1) = false := by rw [e0]; exact bne_self_eq_false _
                  have q1 : ((k2 : Int) != l2) = false := by rw [e1]; exact bne_self_eq_false _
                  have q2 : ((k3 : Int) != l3) = false := by rw [e2]; exact bne_self_eq_false _
                  have q3 : ((k4 : Int) != l4) = false := by rw [e3]; exact bne_self_eq_false _
                  have HP2 : RowKit.Hid ((Ls.take (j + 1)).map sdT = (Ms.take (j + 1)).map sdT) := Lib.hid (map_take_snoc sdT HX.out HY.out HP.out (by show ((k1, k2, k3, k4), La) = ((l1, l2, l3, l4), Lb); rw [e0, e1, e2, e3, eo]))
                  clear e0 e1 e2 e3 eo
                  refine wp_region_reg (Nil_) (by kernel_rfl) ?_
                  refine opR_ 0 29 (v := ?_) ?_ ?_; rotate_left
                  · intro w' hw'; go_simp; (try with_reducible rfl)
                  simp only [st0_, st1_]
                  refine opR_ 1 30 (v := ?_) ?_ ?_; rotate_left
                  · intro w' hw'; go_simp; (try with_reducible rfl)
                  simp only [st0_, st1_]
                  refine opR_ 2 31 (v := ?_) ?_ ?_; rotate_left
                  · intro w' hw'; go_simp; (try with_reducible rfl)
                  simp only [st0_, st1_]
                  refine opR_ 3 32 (v := ?_) ?_ ?_; rotate_left
                  · intro w' hw'; go_simp; (try with_reducible rfl)
                  simp only [st0_, st1_]
                  refine opR_ 4 33 (v := ?_) ?_ ?_; rotate_left
                  · intro w' hw'; go_simp; (try with_reducible rfl)
                  simp only [st0_, st1_]
                  refine opR_ 5 34 (v := ?_) ?_ ?_; rotate_left
                  · intro w' hw'; go_simp; (try with_reducible rfl)
                  simp only [st0_, st1_]
                  refine opR_ 6 35 (v := ?_) ?_ ?_; rotate_left
                  · intro w' hw'; go_simp; (try with_reducible rfl)
                  simp only [st0_, st1_]
                  refine opR_ 7 36 (v := ?_) ?_ ?_; rotate_left
                  · intro w' hw'; go_simp; (try with_reducible rfl)
                  simp only [st0_, st1_]
                  refine opR_ 8 37 (v := ?_) ?_ ?_; rotate_left
                  · intro w' hw'; go_simp; (try with_reducible rfl)
                  simp only [st0_, st1_]
                  refine opR_ 9 38 (v := ?_) ?_ ?_; rotate_left
                  · intro w' hw'; go_simp; (try with_reducible rfl)
                  simp only [st0_, st1_]
                  refine opR_ 10 39 (v := ?_) ?_ ?_; rotate_left
                  · intro w' hw'; go_simp; (try with_reducible rfl)
                  simp only [st0_, st1_]
                  refine opR_ 11 40 (v := ?_) ?_ ?_; rotate_left
                  · intro w' hw'; go_simp; (try with_reducible rfl)
                  simp only [st0_, st1_]
                  refine opR_ 12 41 (v := ?_) ?_ ?_; rotate_left
                  · intro w' hw'; go_simp; (try with_reducible rfl)
                  simp only [st0_, st1_]
                  refine opR_ 13 42 (v := ?_) ?_ ?_; rotate_left
                  · intro w' hw'; go_simp; (try with_reducible rfl)
                  simp only [st0_, st1_]
                  refine opR_ 14 43 (v := ?_) ?_ ?_; rotate_left
                  · intro w' hw'; go_simp; (try with_reducible rfl)
                  simp only [st0_, st1_]
                  refine opR_ 15 44 (v := ?_) ?_ ?_; rotate_left
                  · intro w' hw'; go_simp; (try with_reducible rfl)
                  simp only [st0_, st1_]
                  refine opR_ 16 45 (v := ?_) ?_ ?_; rotate_left
                  · intro w' hw'; go_simp; (try with_reducible rfl)
                  simp only [st0_, st1_]
                  refine opR_ 17 46 (v := ?_) ?_ ?_; rotate_left
                  · intro w' hw'; go_simp; (try with_reducible rfl)
                  simp only [st0_, st1_]
                  refine opR_ 18 47 (v := ?_) ?_ ?_; rotate_left
                  · intro w' hw'; go_simp; (try with_reducible rfl)
                  simp only [st0_, st1_]
                  refine opR_ 19 48 (v := ?_) ?_ ?_; rotate_left
                  · intro w' hw'; go_simp; (try with_reducible rfl)
                  simp only [st0_, st1_]
                  refine opR_ 20 49 (v := ?_) ?_ ?_; rotate_left
                  · intro w' hw'; go_simp; (try with_reducible rfl)
                  simp only [st0_, st1_]
                  refine opR_ 21 50 (v := ?_) ?_ ?_; rotate_left
                  · intro w' hw'; go_simp; (try with_reducible rfl)
                  simp only [st0_, st1_]
                  refine opR_ 22 51 (v := ?_) ?_ ?_; rotate_left
                  · intro w' hw'; go_simp; (try with_reducible rfl)
                  simp only [st0_, st1_]
                  refine opR_ 23 52 (v := ?_) ?_ ?_; rotate_left
                  · intro w' hw'; go_simp; (try with_reducible rfl)
                  simp only [st0_, st1_]
                  refine opR_ 24 53 (v := ?_) ?_ ?_; rotate_left
                  · intro w' hw'; go_simp; (try with_reducible rfl)
                  simp only [st0_, st1_]
                  refine opR_ 25 54 (v := ?_) ?_ ?_; rotate_left
                  · intro w' hw'; go_simp; (try with_reducible rfl)
                  simp only [st0_, st1_]
                  refine opR_ 26 55 (v := ?_) ?_ ?_; rotate_left
                  · intro w' hw'; go_simp; (try with_reducible rfl)
                  simp only [st0_, st1_]
                  refine opR_ 27 56 (v := ?_) ?_ ?_; rotate_left
                  · intro w' hw'; go_simp; (try with_reducible rfl)
                  simp only [st0_, st1_]
                  refine opR_ 28 57 (v := ?_) ?_ ?_; rotate_left
                  · intro w' hw'; go_simp; (try with_reducible rfl)
                  simp only [st0_, st1_]
                  refine opR_ 29 58 (v := ?_) ?_ ?_; rotate_left
                  · intro w' hw'; go_simp; (try with_reducible rfl)
                  simp only [st0_, st1_]
                  refine opR_ 30 59 (v := ?_) ?_ ?_; rotate_left
                  · intro w' hw'; go_simp; (try with_reducible rfl)
                  simp only [st0_, st1_]
                  refine opR_ 31 60 (v := ?_) ?_ ?_; rotate_left
                  · intro w' hw'; go_simp; (try with_reducible rfl)
                  simp only [st0_, st1_]
                  refine opR_ 32 61 (v := ?_) ?_ ?_; rotate_left
                  · intro w' hw'; go_simp; (try with_reducible rfl)
                  simp only [st0_, st1_]
                  refine opR_ 33 62 (v := ?_) ?_ ?_; rotate_left
                  · intro w' hw'; go_simp; (try with_reducible rfl)
                  simp only [st0_, st1_]
                  refine opR_ 34 63 (v := ?_) ?_ ?_; rotate_left
                  · intro w' hw'; go_simp; (try with_reducible rfl)
                  simp only [st0_, st1_]
                  refine opR_ 35 64 (v := ?_) ?_ ?_; rotate_left
                  · intro w' hw'; go_simp; (try with_reducible rfl)
                  simp only [st0_, st1_]
                  refine opR_ 36 65 (v := ?_) ?_ ?_; rotate_left
                  · intro w' hw'; go_simp; (try with_reducible rfl)
                  simp only [st0_, st1_]
                  refine opR_ 37 66 (v := ?_) ?_ ?_; rotate_left
                  · intro w' hw'; go_simp; (try with_reducible rfl)
                  simp only [st0_, st1_]
                  refine opR_ 38 67 (v := ?_) ?_ ?_; rotate_left
                  · intro w' hw'; go_simp; (try with_reducible rfl)
                  simp only [st0_, st1_]
                  refine opR_ 39 68 (v := ?_) ?_ ?_; rotate_left
                  · intro w' hw'; go_simp; (try with_reducible rfl)
                  simp only [st0_, st1_]
                  refine opR_ 40 69 (v := ?_) ?_ ?_; rotate_left
                  · intro w' hw'; go_simp; (try with_reducible rfl)
                  simp only [st0_, st1_]
                  refine opR_ 41 70 (v := ?_) ?_ ?_; rotate_left
                  · intro w' hw'; go_simp; (try with_reducible rfl)
                  simp only [st0_, st1_]
                  refine opR_ 42 71 (v := ?_) ?_ ?_; rotate_left
                  · intro w' hw'; go_simp; (try with_reducible rfl)
                  simp only [st0_, st1_]
                  refine opR_ 43 72 (v := ?_) ?_ ?_; rotate_left
                  · intro w' hw'; go_simp; (try with_reducible rfl)
                  simp only [st0_, st1_]
                  refine opR_ 44 73 (v := ?_) ?_ ?_; rotate_left
                  · intro w' hw'; go_simp; (try with_reducible rfl)
                  simp only [st0_, st1_]
                  refine opR_ 45 74 (v := ?_) ?_ ?_; rotate_left
                  · intro w' hw'; go_simp; (try with_reducible rfl)
                  simp only [st0_, st1_]
                  refine opR_ 46 75 (v := ?_) ?_ ?_; rotate_left
                  · intro w' hw'; go_simp; (try with_reducible rfl)
                  simp only [st0_, st1_]
                  refine opR_ 47 76 (v := ?_) ?_ ?_; rotate_left
                  · intro w' hw'; go_simp; (try with_reducible rfl)
                  simp only [st0_, st1_]
                  refine opR_ 48 77 (v := ?_) ?_ ?_; rotate_left
                  · intro w' hw'; go_simp; (try with_reducible rfl)
                  simp only [st0_, st1_]
                  refine opR_ 49 78 (v := ?_) ?_ ?_; rotate_left
                  · intro w' hw'; go_simp; (try with_reducible rfl)
                  simp only [st0_, st1_]
                  refine opR_ 50 79 (v := ?_) ?_ ?_; rotate_left
                  · intro w' hw'; go_simp; (try with_reducible rfl)
                  simp only [st0_, st1_]
                  refine opR_ 51 80 (v := ?_) ?_ ?_; rotate_left
                  · intro w' hw'; go_simp; (try with_reducible rfl)
                  simp only [st0_, st1_]
                  refine opR_ 52 81 (v := ?_) ?_ ?_; rotate_left
                  · intro w' hw'; go_simp; (try with_reducible rfl)
                  simp only [st0_, st1_]
                  refine opR_ 53 82 (v := ?_) ?_ ?_; rotate_left
                  · intro w' hw'; go_simp; (try with_reducible rfl)
                  simp only [st0_, st1_]
                  refine wpR_done (by kernel_rfl) ?_ _
                  intro W9 hw9
                  have HBz := Lib.hid (bel_bl HB3.out (bel_bl (bel_dr (Below.refl wq.heap.size wq)) hw9))
                  clear hw9 q0 q1 q2 q3 la0 la1 la2 la3 lb0 lb1 lb2 lb3 HB3
                  go_wp2
                  go_roundw
                  case rel => exact ⟨j + 1, by omega, by go_num, HBz, HP2⟩
                  case measure => simp [intOf]; omega
                · obtain rfl : false = eo' := (decide_eq_false eo).symm.trans Geo.out
                  have q0 : ((k1 : Int) != l1) = false := by rw [e0]; exact bne_self_eq_false _
                  have q1 : ((k2 : Int) != l2) = false := by rw [e1]; exact bne_self_eq_false _
                  have q2 : ((k3 : Int) != l3) = false := by rw [e2]; exact bne_self_eq_false _
                  have q3 : ((k4 : Int) != l4) = false := by rw [e3]; exact bne_self_eq_false _
                  have Hno : RowKit.Hid (R = false) := Lib.hid (Hdec.out.symm.trans (decide_eq_false (map_ne_at sdT HX.out HY.out (fun q => eo (by have := congrArg (fun z : SD => z.2) q; exact this)))))
                  clear e0 e1 e2 e3 eo
                  refine wp_region_reg (Nil_) (by kernel_rfl) ?_
                  refine opR_ 0 29 (v := ?_) ?_ ?_; rotate_left
                  · intro w' hw'; go_simp; (try with_reducible rfl)
                  simp only [st0_, st1_]
                  refine opR_ 1 30 (v := ?_) ?_ ?_; rotate_left
                  · intro w' hw'; go_simp; (try with_reducible rfl)
                  simp only [st0_, st1_]
                  refine opR_ 2 31 (v := ?_) ?_ ?_; rotate_left
                  · intro w' hw'; go_simp; (try with_reducible rfl)
                  simp only [st0_, st1_]
                  refine opR_ 3 32 (v := ?_) ?_ ?_; rotate_left
                  · intro w' hw'; go_simp; (try with_reducible rfl)
                  simp only [st0_, st1_]
                  refine opR_ 4 33 (v := ?_) ?_ ?_; rotate_left
                  · intro w' hw'; go_simp; (try with_reducible rfl)
                  simp only [st0_, st1_]
                  refine opR_ 5 34 (v := ?_) ?_ ?_; rotate_left
                  · intro w' hw'; go_simp; (try with_reducible rfl)
                  simp only [st0_, st1_]
                  refine opR_ 6 35 (v := ?_) ?_ ?_; rotate_left
                  · intro w' hw'; go_simp; (try with_reducible rfl)
                  simp only [st0_, st1_]
                  refine opR_ 7 36 (v := ?_) ?_ ?_; rotate_left
                  · intro w' hw'; go_simp; (try with_reducible rfl)
                  simp only [st0_, st1_]
                  refine opR_ 8 37 (v := ?_) ?_ ?_; rotate_left
                  · intro w' hw'; go_simp; (try with_reducible rfl)
                  simp only [st0_, st1_]
                  refine opR_ 9 38 (v := ?_) ?_ ?_; rotate_left
                  · intro w' hw'; go_simp; (try with_reducible rfl)
                  simp only [st0_, st1_]
                  refine opR_ 10 39 (v := ?_) ?_ ?_; rotate_left
                  · intro w' hw'; go_simp; (try with_reducible rfl)
                  simp only [st0_, st1_]
                  refine opR_ 11 40 (v := ?_) ?_ ?_; rotate_left
                  · intro w' hw'; go_simp; (try with_reducible rfl)
                  simp only [st0_, st1_]
                  refine opR_ 12 41 (v := ?_) ?_ ?_; rotate_left
                  · intro w' hw'; go_simp; (try with_reducible rfl)
                  simp only [st0_, st1_]
                  refine opR_ 13 42 (v := ?_) ?_ ?_; rotate_left
                  · intro w' hw'; go_simp; (try with_reducible rfl)
                  simp only [st0_, st1_]
                  refine opR_ 14 43 (v := ?_) ?_ ?_; rotate_left
                  · intro w' hw'; go_simp; (try with_reducible rfl)
                  simp only [st0_, st1_]
                  refine opR_ 15 44 (v := ?_) ?_ ?_; rotate_left
                  · intro w' hw'; go_simp; (try with_reducible rfl)
                  simp only [st0_, st1_]
                  refine opR_ 16 45 (v := ?_) ?_ ?_; rotate_left
                  · intro w' hw'; go_simp; (try with_reducible rfl)
                  simp only [st0_, st1_]
                  refine opR_ 17 46 (v := ?_) ?_ ?_; rotate_left
                  · intro w' hw'; go_simp; (try with_reducible rfl)
                  simp only [st0_, st1_]
                  refine opR_ 18 47 (v := ?_) ?_ ?_; rotate_left
                  · intro w' hw'; go_simp; (try with_reducible rfl)
                  simp only [st0_, st1_]
                  refine opR_ 19 48 (v := ?_) ?_ ?_; rotate_left
                  · intro w' hw'; go_simp; (try with_reducible rfl)
                  simp only [st0_, st1_]
                  refine opR_ 20 49 (v := ?_) ?_ ?_; rotate_left
                  · intro w' hw'; go_simp; (try with_reducible rfl)
                  simp only [st0_, st1_]
                  refine opR_ 21 50 (v := ?_) ?_ ?_; rotate_left
                  · intro w' hw'; go_simp; (try with_reducible rfl)
                  simp only [st0_, st1_]
                  refine opR_ 22 51 (v := ?_) ?_ ?_; rotate_left
                  · intro w' hw'; go_simp; (try with_reducible rfl)
                  simp only [st0_, st1_]
                  refine opR_ 23 52 (v := ?_) ?_ ?_; rotate_left
                  · intro w' hw'; go_simp; (try with_reducible rfl)
                  simp only [st0_, st1_]
                  refine opR_ 24 53 (v := ?_) ?_ ?_; rotate_left
                  · intro w' hw'; go_simp; (try with_reducible rfl)
                  simp only [st0_, st1_]
                  refine opR_ 25 54 (v := ?_) ?_ ?_; rotate_left
                  · intro w' hw'; go_simp; (try with_reducible rfl)
                  simp only [st0_, st1_]
                  refine opR_ 26 55 (v := ?_) ?_ ?_; rotate_left
                  · intro w' hw'; go_simp; (try with_reducible rfl)
                  simp only [st0_, st1_]
                  refine opR_ 27 56 (v := ?_) ?_ ?_; rotate_left
                  · intro w' hw'; go_simp; (try with_reducible rfl)
                  simp only [st0_, st1_]
                  refine opR_ 28 57 (v := ?_) ?_ ?_; rotate_left
                  · intro w' hw'; go_simp; (try with_reducible rfl)
                  simp only [st0_, st1_]
                  refine opR_ 29 58 (v := ?_) ?_ ?_; rotate_left
                  · intro w' hw'; go_simp; (try with_reducible rfl)
                  simp only [st0_, st1_]
                  refine opR_ 30 59 (v := ?_) ?_ ?_; rotate_left
                  · intro w' hw'; go_simp; (try with_reducible rfl)
                  simp only [st0_, st1_]
                  refine opR_ 31 60 (v := ?_) ?_ ?_; rotate_left
                  · intro w' hw'; go_simp; (try with_reducible rfl)
                  simp only [st0_, st1_]
                  refine opR_ 32 61 (v := ?_) ?_ ?_; rotate_left
                  · intro w' hw'; go_simp; (try with_reducible rfl)
                  simp only [st0_, st1_]
                  refine opR_ 33 62 (v := ?_) ?_ ?_; rotate_left
                  · intro w' hw'; go_simp; (try with_reducible rfl)
                  simp only [st0_, st1_]
                  refine opR_ 34 63 (v := ?_) ?_ ?_; rotate_left
                  · intro w' hw'; go_simp; (try with_reducible rfl)
                  simp only [st0_, st1_]
                  refine opR_ 35 64 (v := ?_) ?_ ?_; rotate_left
                  · intro w' hw'; go_simp; (try with_reducible rfl)
                  simp only [st0_, st1_]
                  refine opR_ 36 65 (v := ?_) ?_ ?_; rotate_left
                  · intro w' hw'; go_simp; (try with_reducible rfl)
                  simp only [st0_, st1_]
                  refine opR_ 37 66 (v := ?_) ?_ ?_; rotate_left
                  · intro w' hw'; go_simp; (try with_reducible rfl)
                  simp only [st0_, st1_]
                  refine opR_ 38 67 (v := ?_) ?_ ?_; rotate_left
                  · intro w' hw'; go_simp; (try with_reducible rfl)
                  simp only [st0_, st1_]
                  refine opR_ 39 68 (v := ?_) ?_ ?_; rotate_left
                  · intro w' hw'; go_simp; (try with_reducible rfl)
                  simp only [st0_, st1_]
                  refine opR_ 40 69 (v := ?_) ?_ ?_; rotate_left
                  · intro w' hw'; go_simp; (try with_reducible rfl)
                  simp only [st0_, st1_]
                  refine opR_ 41 70 (v := ?_) ?_ ?_; rotate_left
                  · intro w' hw'; go_simp; (try with_reducible rfl)
                  simp only [st0_, st1_]
                  refine opR_ 42 71 (v := ?_) ?_ ?_; rotate_left
                  · intro w' hw'; go_simp; (try with_reducible rfl)
                  simp only [st0_, st1_]
                  refine opR_ 43 72 (v := ?_) ?_ ?_; rotate_left
                  · intro w' hw'; go_simp; (try with_reducible rfl)
                  simp only [st0_, st1_]
                  refine opR_ 44 73 (v := ?_) ?_ ?_; rotate_left
                  · intro w' hw'; go_simp; (try with_reducible rfl)
                  simp only [st0_, st1_]
                  refine opR_ 45 74 (v := ?_) ?_ ?_; rotate_left
                  · intro w' hw'; go_simp; (try with_reducible rfl)
                  simp only [st0_, st1_]
                  refine opR_ 46 75 (v := ?_) ?_ ?_; rotate_left
                  · intro w' hw'; go_simp; (try with_reducible rfl)
                  simp only [st0_, st1_]
                  refine opR_ 47 76 (v := ?_) ?_ ?_; rotate_left
                  · intro w' hw'; go_simp; (try with_reducible rfl)
                  simp only [st0_, st1_]
                  refine opR_ 48 77 (v := ?_) ?_ ?_; rotate_left
                  · intro w' hw'; go_simp; (try with_reducible rfl)
                  simp only [st0_, st1_]
                  refine opR_ 49 78 (v := ?_) ?_ ?_; rotate_left
                  · intro w' hw'; go_simp; (try with_reducible rfl)
                  simp only [st0_, st1_]
                  refine opR_ 50 79 (v := ?_) ?_ ?_; rotate_left
                  · intro w' hw'; go_simp; (try with_reducible rfl)
                  simp only [st0_, st1_]
                  refine opR_ 51 80 (v := ?_) ?_ ?_; rotate_left
                  · intro w' hw'; go_simp; (try with_reducible rfl)
                  simp only [st0_, st1_]
                  refine opR_ 52 81 (v := ?_) ?_ ?_; rotate_left
                  · intro w' hw'; go_simp; (try with_reducible rfl)
                  simp only [st0_, st1_]
                  refine opR_ 53 82 (v := ?_) ?_ ?_; rotate_left
                  · intro w' hw'; go_simp; (try with_reducible rfl)
                  simp only [st0_, st1_]
                  refine wpR_done (by kernel_rfl) ?_ _
                  intro W9 hw9
                  have HBz := Lib.hid (bel_bl HB3.out (bel_bl (bel_dr (Below.refl wq.heap.size wq)) hw9))
                  clear hw9 q0 q1 q2 q3 la0 la1 la2 la3 lb0 lb1 lb2 lb3 HB3
                  go_wp2
                  go_ret
                  exact ⟨by rw [Hno.out]; rfl, HBz.out⟩
              · clear Geo
                have q0 : ((k1 : Int) != l1) = false := by rw [e0]; exact bne_self_eq_false _
                have q1 : ((k2 : Int) != l2) = false := by rw [e1]; exact bne_self_eq_false _
                have q2 : ((k3 : Int) != l3) = false := by rw [e2]; exact bne_self_eq_false _
                have q3 : ((k4 : Int) != l4) = true := bne_iff_ne.2 e3
                have Hno : RowKit.Hid (R = false) := Lib.hid (Hdec.out.symm.trans (decide_eq_false (map_ne_at sdT HX.out HY.out (fun q => e3 (by have := congrArg (fun z : SD => z.1.2.2.2) q; exact this)))))
                clear e0 e1 e2 e3
                refine wp_region_reg (Nil_) (by kernel_rfl) ?_
                refine opR_ 0 29 (v := ?_) ?_ ?_; rotate_left
                · intro w' hw'; go_simp; (try with_reducible rfl)
                simp only [st0_, st1_]
                refine opR_ 1 30 (v := ?_) ?_ ?_; rotate_left
                · intro w' hw'; go_simp; (try with_reducible rfl)
                simp only [st0_, st1_]
                refine opR_ 2 31 (v := ?_) ?_ ?_; rotate_left
                · intro w' hw'; go_simp; (try with_reducible rfl)
                simp only [st0_, st1_]
                refine opR_ 3 32 (v := ?_) ?_ ?_; rotate_left
                · intro w' hw'; go_simp; (try with_reducible rfl)
                simp only [st0_, st1_]
                refine opR_ 4 33 (v := ?_) ?_ ?_; rotate_left
                · intro w' hw'; go_simp; (try with_reducible rfl)
                simp only [st0_, st1_]
                refine opR_ 5 34 (v := ?_) ?_ ?_; rotate_left
                · intro w' hw'; go_simp; (try with_reducible rfl)
                simp only [st0_, st1_]
                refine opR_ 6 35 (v := ?_) ?_ ?_; rotate_left
                · intro w' hw'; go_simp; (try with_reducible rfl)
                simp only [st0_, st1_]
                refine opR_ 7 36 (v := ?_) ?_ ?_; rotate_left
                · intro w' hw'; go_simp; (try with_reducible rfl)
                simp only [st0_, st1_]
                refine opR_ 8 37 (v := ?_) ?_ ?_; rotate_left
                · intro w' hw'; go_simp; (try with_reducible rfl)
                simp only [st0_, st1_]
                refine opR_ 9 38 (v := ?_) ?_ ?_; rotate_left
                · intro w' hw'; go_simp; (try with_reducible rfl)
                simp only [st0_, st1_]
                refine opR_ 10 39 (v := ?_) ?_ ?_; rotate_left
                · intro w' hw'; go_simp; (try with_reducible rfl)
                simp only [st0_, st1_]
                refine opR_ 11 40 (v := ?_) ?_ ?_; rotate_left
                · intro w' hw'; go_simp; (try with_reducible rfl)
                simp only [st0_, st1_]
                refine opR_ 12 41 (v := ?_) ?_ ?_; rotate_left
                · intro w' hw'; go_simp; (try with_reducible rfl)
                simp only [st0_, st1_]
                refine opR_ 13 42 (v := ?_) ?_ ?_; rotate_left
                · intro w' hw'; go_simp; (try with_reducible rfl)
                simp only [st0_, st1_]
                refine opR_ 14 43 (v := ?_) ?_ ?_; rotate_left
                · intro w' hw'; go_simp; (try with_reducible rfl)
                simp only [st0_, st1_]
                refine opR_ 15 44 (v := ?_) ?_ ?_; rotate_left
                · intro w' hw'; go_simp; (try with_reducible rfl)
                simp only [st0_, st1_]
                refine opR_ 16 45 (v := ?_) ?_ ?_; rotate_left
                · intro w' hw'; go_simp; (try with_reducible rfl)
                simp only [st0_, st1_]
                refine opR_ 17 46 (v := ?_) ?_ ?_; rotate_left
                · intro w' hw'; go_simp; (try with_reducible rfl)
                simp only [st0_, st1_]
                refine opR_ 18 47 (v := ?_) ?_ ?_; rotate_left
                · intro w' hw'; go_simp; (try with_reducible rfl)
                simp only [st0_, st1_]
                refine opR_ 19 48 (v := ?_) ?_ ?_; rotate_left
                · intro w' hw'; go_simp; (try with_reducible rfl)
                simp only [st0_, st1_]
                refine opR_ 20 49 (v := ?_) ?_ ?_; rotate_left
                · intro w' hw'; go_simp; (try with_reducible rfl)
                simp only [st0_, st1_]
                refine opR_ 21 50 (v := ?_) ?_ ?_; rotate_left
                · intro w' hw'; go_simp; (try with_reducible rfl)
                simp only [st0_, st1_]
                refine opR_ 22 51 (v := ?_) ?_ ?_; rotate_left
                · intro w' hw'; go_simp; (try with_reducible rfl)
                simp only [st0_, st1_]
                refine opR_ 23 52 (v := ?_) ?_ ?_; rotate_left
                · intro w' hw'; go_simp; (try with_reducible rfl)
                simp only [st0_, st1_]
                refine opR_ 24 53 (v := ?_) ?_ ?_; rotate_left
                · intro w' hw'; go_simp; (try with_reducible rfl)
                simp only [st0_, st1_]
                refine opR_ 25 54 (v := ?_) ?_ ?_; rotate_left
                · intro w' hw'; go_simp; (try with_reducible rfl)
                simp only [st0_, st1_]
                refine opR_ 26 55 (v := ?_) ?_ ?_; rotate_left
                · intro w' hw'; go_simp; (try with_reducible rfl)
                simp only [st0_, st1_]
                refine opR_ 27 56 (v := ?_) ?_ ?_; rotate_left
                · intro w' hw'; go_simp; (try with_reducible rfl)
                simp only [st0_, st1_]
                refine opR_ 28 57 (v := ?_) ?_ ?_; rotate_left
                · intro w' hw'; go_simp; (try with_reducible rfl)
                simp only [st0_, st1_]
                refine opR_ 29 58 (v := ?_) ?_ ?_; rotate_left
                · intro w' hw'; go_simp; (try with_reducible rfl)
                simp only [st0_, st1_]
                refine opR_ 30 59 (v := ?_) ?_ ?_; rotate_left
                · intro w' hw'; go_simp; (try with_reducible rfl)
                simp only [st0_, st1_]
                refine opR_ 31 60 (v := ?_) ?_ ?_; rotate_left
                · intro w' hw'; go_simp; (try with_reducible rfl)
                simp only [st0_, st1_]
                refine opR_ 32 61 (v := ?_) ?_ ?_; rotate_left
                · intro w' hw'; go_simp; (try with_reducible rfl)
                simp only [st0_, st1_]
                refine opR_ 33 62 (v := ?_) ?_ ?_; rotate_left
                · intro w' hw'; go_simp; (try with_reducible rfl)
                simp only [st0_, st1_]
                refine opR_ 34 63 (v := ?_) ?_ ?_; rotate_left
                · intro w' hw'; go_simp; (try with_reducible rfl)
                simp only [st0_, st1_]
                refine opR_ 35 64 (v := ?_) ?_ ?_; rotate_left
                · intro w' hw'; go_simp; (try with_reducible rfl)
                simp only [st0_, st1_]
                refine opR_ 36 65 (v := ?_) ?_ ?_; rotate_left
                · intro w' hw'; go_simp; (try with_reducible rfl)
                simp only [st0_, st1_]
                refine opR_ 37 66 (v := ?_) ?_ ?_; rotate_left
                · intro w' hw'; go_simp; (try with_reducible rfl)
                simp only [st0_, st1_]
                refine opR_ 38 67 (v := ?_) ?_ ?_; rotate_left
                · intro w' hw'; go_simp; (try with_reducible rfl)
                simp only [st0_, st1_]
                refine opR_ 39 68 (v := ?_) ?_ ?_; rotate_left
                · intro w' hw'; go_simp; (try with_reducible rfl)
                simp only [st0_, st1_]
                refine opR_ 40 69 (v := ?_) ?_ ?_; rotate_left
                · intro w' hw'; go_simp; (try with_reducible rfl)
                simp only [st0_, st1_]
                refine opR_ 41 70 (v := ?_) ?_ ?_; rotate_left
                · intro w' hw'; go_simp; (try with_reducible rfl)
                simp only [st0_, st1_]
                refine opR_ 42 71 (v := ?_) ?_ ?_; rotate_left
                · intro w' hw'; go_simp; (try with_reducible rfl)
                simp only [st0_, st1_]
                refine opR_ 43 72 (v := ?_) ?_ ?_; rotate_left
                · intro w' hw'; go_simp; (try with_reducible rfl)
                simp only [st0_, st1_]
                refine opR_ 44 73 (v := ?_) ?_ ?_; rotate_left
                · intro w' hw'; go_simp; (try with_reducible rfl)
                simp only [st0_, st1_]
                refine opR_ 45 74 (v := ?_) ?_ ?_; rotate_left
                · intro w' hw'; go_simp; (try with_reducible rfl)
                simp only [st0_, st1_]
                refine opR_ 46 75 (v := ?_) ?_ ?_; rotate_left
                · intro w' hw'; go_simp; (try with_reducible rfl)
                simp only [st0_, st1_]
                refine opR_ 47 76 (v := ?_) ?_ ?_; rotate_left
                · intro w' hw'; go_simp; (try with_reducible rfl)
                simp only [st0_, st1_]
                refine opR_ 48 77 (v := ?_) ?_ ?_; rotate_left
                · intro w' hw'; go_simp; (try with_reducible rfl)
                simp only [st0_, st1_]
                refine opR_ 49 78 (v := ?_) ?_ ?_; rotate_left
                · intro w' hw'; go_simp; (try with_reducible rfl)
                simp only [st0_, st1_]
                refine opR_ 50 79 (v := ?_) ?_ ?_; rotate_left
                · intro w' hw'; go_simp; (try with_reducible rfl)
                simp only [st0_, st1_]
                refine opX_ 51 80 ?_
                apply Exists.intro
                apply And.intro
                · exact yr_skip (by rfl)
                simp only [st0_, st1_]
                refine opX_ 52 81 ?_
                apply Exists.intro
                apply And.intro
                · exact yr_skip (by rfl)
                simp only [st0_, st1_]
                refine opR_ 53 82 (v := ?_) ?_ ?_; rotate_left
                · intro w' hw'; go_simp; (try with_reducible rfl)
                simp only [st0_, st1_]
                refine wpR_done (by kernel_rfl) ?_ _
                intro W9 hw9
                have HBz := Lib.hid (bel_bl HB3.out (bel_bl (bel_dr (Below.refl wq.heap.size wq)) hw9))
                clear hw9 q0 q1 q2 q3 la0 la1 la2 la3 lb0 lb1 lb2 lb3 HB3
                go_wp2
                go_ret
                exact ⟨by rw [Hno.out]; rfl, HBz.out⟩
            · clear Geo
              have q0 : ((k1 : Int) != l1) = false := by rw [e0]; exact bne_self_eq_false _
              have q1 : ((k2 : Int) != l2) = false := by rw [e1]; exact bne_self_eq_false _
              have q2 : ((k3 : Int) != l3) = true := bne_iff_ne.2 e2
              have Hno : RowKit.Hid (R = false) := Lib.hid (Hdec.out.symm.trans (decide_eq_false (map_ne_at sdT HX.out HY.out (fun q => e2 (by have := congrArg (fun z : SD => z.1.2.2.1) q; exact this)))))
              clear e0 e1 e2
              refine wp_region_reg (Nil_) (by kernel_rfl) ?_
              refine opR_ 0 29 (v := ?_) ?_ ?_; rotate_left
              · intro w' hw'; go_simp; (try with_reducible rfl)
              simp only [st0_, st1_]
              refine opR_ 1 30 (v := ?_) ?_ ?_; rotate_left
              · intro w' hw'; go_simp; (try with_reducible rfl)
              simp only [st0_, st1_]
              refine opR_ 2 31 (v := ?_) ?_ ?_; rotate_left
              · intro w' hw'; go_simp; (try with_reducible rfl)
              simp only [st0_, st1_]
              refine opR_ 3 32 (v := ?_) ?_ ?_; rotate_left
              · intro w' hw'; go_simp; (try with_reducible rfl)
              simp only [st0_, st1_]
              refine opR_ 4 33 (v := ?_) ?_ ?_; rotate_left
              · intro w' hw'; go_simp; (try with_reducible rfl)
              simp only [st0_, st1_]
              refine opR_ 5 34 (v := ?_) ?_ ?_; rotate_left
              · intro w' hw'; go_simp; (try with_reducible rfl)
              simp only [st0_, st1_]
              refine opR_ 6 35 (v := ?_) ?_ ?_; rotate_left
              · intro w' hw'; go_simp; (try with_reducible rfl)
              simp only [st0_, st1_]
              refine opR_ 7 36 (v := ?_) ?_ ?_; rotate_left
              · intro w' hw'; go_simp; (try with_reducible rfl)
              simp only [st0_, st1_]
              refine opR_ 8 37 (v := ?_) ?_ ?_; rotate_left
              · intro w' hw'; go_simp; (try with_reducible rfl)
              simp only [st0_, st1_]
              refine opR_ 9 38 (v := ?_) ?_ ?_; rotate_left
              · intro w' hw'; go_simp; (try with_reducible rfl)
              simp only [st0_, st1_]
              refine opR_ 10 39 (v := ?_) ?_ ?_; rotate_left
              · intro w' hw'; go_simp; (try with_reducible rfl)
              simp only [st0_, st1_]
              refine opR_ 11 40 (v := ?_) ?_ ?_; rotate_left
              · intro w' hw'; go_simp; (try with_reducible rfl)
              simp only [st0_, st1_]
              refine opR_ 12 41 (v := ?_) ?_ ?_; rotate_left
              · intro w' hw'; go_simp; (try with_reducible rfl)
              simp only [st0_, st1_]
              refine opR_ 13 42 (v := ?_) ?_ ?_; rotate_left
              · intro w' hw'; go_simp; (try with_reducible rfl)
              simp only [st0_, st1_]
              refine opR_ 14 43 (v := ?_) ?_ ?_; rotate_left
              · intro w' hw'; go_simp; (try with_reducible rfl)
              simp only [st0_, st1_]
              refine opR_ 15 44 (v := ?_) ?_ ?_; rotate_left
              · intro w' hw'; go_simp; (try with_reducible rfl)
              simp only [st0_, st1_]
              refine opR_ 16 45 (v := ?_) ?_ ?_; rotate_left
              · intro w' hw'; go_simp; (try with_reducible rfl)
              simp only [st0_, st1_]
              refine opR_ 17 46 (v := ?_) ?_ ?_; rotate_left
              · intro w' hw'; go_simp; (try with_reducible rfl)
              simp only [st0_, st1_]
              refine opR_ 18 47 (v := ?_) ?_ ?_; rotate_left
              · intro w' hw'; go_simp; (try with_reducible rfl)
              simp only [st0_, st1_]
              refine opR_ 19 48 (v := ?_) ?_ ?_; rotate_left
              · intro w' hw'; go_simp; (try with_reducible rfl)
              simp only [st0_, st1_]
              refine opR_ 20 49 (v := ?_) ?_ ?_; rotate_left
              · intro w' hw'; go_simp; (try with_reducible rfl)
              simp only [st0_, st1_]
              refine opR_ 21 50 (v := ?_) ?_ ?_; rotate_left
              · intro w' hw'; go_simp; (try with_reducible rfl)
              simp only [st0_, st1_]
              refine opR_ 22 51 (v := ?_) ?_ ?_; rotate_left
              · intro w' hw'; go_simp; (try with_reducible rfl)
              simp only [st0_, st1_]
              refine opR_ 23 52 (v := ?_) ?_ ?_; rotate_left
              · intro w' hw'; go_simp; (try with_reducible rfl)
              simp only [st0_, st1_]
              refine opR_ 24 53 (v := ?_) ?_ ?_; rotate_left
              · intro w' hw'; go_simp; (try with_reducible rfl)
              simp only [st0_, st1_]
              refine opR_ 25 54 (v := ?_) ?_ ?_; rotate_left
              · intro w' hw'; go_simp; (try with_reducible rfl)
              simp only [st0_, st1_]
              refine opR_ 26 55 (v := ?_) ?_ ?_; rotate_left
              · intro w' hw'; go_simp; (try with_reducible rfl)
              simp only [st0_, st1_]
              refine opR_ 27 56 (v := ?_) ?_ ?_; rotate_left
              · intro w' hw'; go_simp; (try with_reducible rfl)
              simp only [st0_, st1_]
              refine opR_ 28 57 (v := ?_) ?_ ?_; rotate_left
              · intro w' hw'; go_simp; (try with_reducible rfl)
              simp only [st0_, st1_]
              refine opR_ 29 58 (v := ?_) ?_ ?_; rotate_left
              · intro w' hw'; go_simp; (try with_reducible rfl)
              simp only [st0_, st1_]
              refine opR_ 30 59 (v := ?_) ?_ ?_; rotate_left
              · intro w' hw'; go_simp; (try with_reducible rfl)
              simp only [st0_, st1_]
              refine opR_ 31 60 (v := ?_) ?_ ?_; rotate_left
              · intro w' hw'; go_simp; (try with_reducible rfl)
              simp only [st0_, st1_]
              refine opR_ 32 61 (v := ?_) ?_ ?_; rotate_left
              · intro w' hw'; go_simp; (try with_reducible rfl)
              simp only [st0_, st1_]
              refine opR_ 33 62 (v := ?_) ?_ ?_; rotate_left
              · intro w' hw'; go_simp; (try with_reducible rfl)
              simp only [st0_, st1_]
              refine opR_ 34 63 (v := ?_) ?_ ?_; rotate_left
              · intro w' hw'; go_simp; (try with_reducible rfl)
              simp only [st0_, st1_]
              refine opR_ 35 64 (v := ?_) ?_ ?_; rotate_left
              · intro w' hw'; go_simp; (try with_reducible rfl)
              simp only [st0_, st1_]
              refine opR_ 36 65 (v := ?_) ?_ ?_; rotate_left
              · intro w' hw'; go_simp; (try with_reducible rfl)
              simp only [st0_, st1_]
              refine opR_ 37 66 (v := ?_) ?_ ?_; rotate_left
              · intro w' hw'; go_simp; (try with_reducible rfl)
              simp only [st0_, st1_]
              refine opX_ 38 67 ?_
              apply Exists.intro
              apply And.intro
              · exact yr_skip (by rfl)
              simp only [st0_, st1_]
              refine opX_ 39 68 ?_
              apply Exists.intro
              apply And.intro
              · exact yr_skip (by rfl)
              simp only [st0_, st1_]
              refine opX_ 40 69 ?_
              apply Exists.intro
              apply And.intro
              · exact yr_skip (by rfl)
              simp only [st0_, st1_]
              refine opX_ 41 70 ?_
              apply Exists.intro
              apply And.intro
              · exact yr_skip (by rfl)
              simp only [st0_, st1_]
              refine opX_ 42 71 ?_
              apply Exists.intro
              apply And.intro
              · exact yr_skip (by rfl)
              simp only [st0_, st1_]
              refine opX_ 43 72 ?_
              apply Exists.intro
              apply And.intro
              · exact yr_skip (by rfl)
              simp only [st0_, st1_]
              refine opX_ 44 73 ?_
              apply Exists.intro
              apply And.intro
              · exact yr_skip (by rfl)
              simp only [st0_, st1_]
              refine opX_ 45 74 ?_
              apply Exists.intro
              apply And.intro
              · exact yr_skip (by rfl)
              simp only [st0_, st1_]
              refine opX_ 46 75 ?_
              apply Exists.intro
              apply And.intro
              · exact yr_skip (by rfl)
              simp only [st0_, st1_]
              refine opX_ 47 76 ?_
              apply Exists.intro
              apply And.intro
              · exact yr_skip (by rfl)
              simp only [st0_, st1_]
              refine opX_ 48 77 ?_
              apply Exists.intro
              apply And.intro
              · exact yr_skip (by rfl)
              simp only [st0_, st1_]
              refine opR_ 49 78 (v := ?_) ?_ ?_; rotate_left
              · intro w' hw'; go_simp; (try with_reducible rfl)
              simp only [st0_, st1_]
              refine opR_ 50 79 (v := ?_) ?_ ?_; rotate_left
              · intro w' hw'; go_simp; (try with_reducible rfl)
              simp only [st0_, st1_]
              refine opX_ 51 80 ?_
              apply Exists.intro
              apply And.intro
              · exact yr_skip (by rfl)
              simp only [st0_, st1_]
              refine opX_ 52 81 ?_
              apply Exists.intro
              apply And.intro
              · exact yr_skip (by rfl)
              simp only [st0_, st1_]
              refine opR_ 53 82 (v := ?_) ?_ ?_; rotate_left
              · intro w' hw'; go_simp; (try with_reducible rfl)
              simp only [st0_, st1_]
              refine wpR_done (by kernel_rfl) ?_ _
              intro W9 hw9
              have HBz := Lib.hid (bel_bl HB3.out (bel_bl (bel_dr (Below.refl wq.heap.size wq)) hw9))
              clear hw9 q0 q1 q2 la0 la1 la2 la3 lb0 lb1 lb2 lb3 HB3
              go_wp2
              go_ret
              exact ⟨by rw [Hno.out]; rfl, HBz.out⟩
          · clear Geo
            have q0 : ((k1 : Int) != l1) = false := by rw [e0]; exact bne_self_eq_false _
            have q1 : ((k2 : Int) != l2) = true := bne_iff_ne.2 e1
            have Hno : RowKit.Hid (R = false) := Lib.hid (Hdec.out.symm.trans (decide_eq_false (map_ne_at sdT HX.out HY.out (fun q => e1 (by have := congrArg (fun z : SD => z.1.2.1) q; exact this)))))
            clear e0 e1
            refine wp_region_reg (Nil_) (by kernel_rfl) ?_
            refine opR_ 0 29 (v := ?_) ?_ ?_; rotate_left
            · intro w' hw'; go_simp; (try with_reducible rfl)
            simp only [st0_, st1_]
            refine opR_ 1 30 (v := ?_) ?_ ?_; rotate_left
            · intro w' hw'; go_simp; (try with_reducible rfl)
            simp only [st0_, st1_]
            refine opR_ 2 31 (v := ?_) ?_ ?_; rotate_left
            · intro w' hw'; go_simp; (try with_reducible rfl)
            simp only [st0_, st1_]
            refine opR_ 3 32 (v := ?_) ?_ ?_; rotate_left
            · intro w' hw'; go_simp; (try with_reducible rfl)
            simp only [st0_, st1_]
            refine opR_ 4 33 (v := ?_) ?_ ?_; rotate_left
            · intro w' hw'; go_simp; (try with_reducible rfl)
            simp only [st0_, st1_]
            refine opR_ 5 34 (v := ?_) ?_ ?_; rotate_left
            · intro w' hw'; go_simp; (try with_reducible rfl)
            simp only [st0_, st1_]
            refine opR_ 6 35 (v := ?_) ?_ ?_; rotate_left
            · intro w' hw'; go_simp; (try with_reducible rfl)
            simp only [st0_, st1_]
            refine opR_ 7 36 (v := ?_) ?_ ?_; rotate_left
            · intro w' hw'; go_simp; (try with_reducible rfl)
            simp only [st0_, st1_]
            refine opR_ 8 37 (v := ?_) ?_ ?_; rotate_left
            · intro w' hw'; go_simp; (try with_reducible rfl)
            simp only [st0_, st1_]
            refine opR_ 9 38 (v := ?_) ?_ ?_; rotate_left
            · intro w' hw'; go_simp; (try with_reducible rfl)
            simp only [st0_, st1_]
            refine opR_ 10 39 (v := ?_) ?_ ?_; rotate_left
            · intro w' hw'; go_simp; (try with_reducible rfl)
            simp only [st0_, st1_]
            refine opR_ 11 40 (v := ?_) ?_ ?_; rotate_left
            · intro w' hw'; go_simp; (try with_reducible rfl)
            simp only [st0_, st1_]
            refine opR_ 12 41 (v := ?_) ?_ ?_; rotate_left
            · intro w' hw'; go_simp; (try with_reducible rfl)
            simp only [st0_, st1_]
            refine opR_ 13 42 (v := ?_) ?_ ?_; rotate_left
            · intro w' hw'; go_simp; (try with_reducible rfl)
            simp only [st0_, st1_]
            refine opR_ 14 43 (v := ?_) ?_ ?_; rotate_left
            · intro w' hw'; go_simp; (try with_reducible rfl)
            simp only [st0_, st1_]
            refine opR_ 15 44 (v := ?_) ?_ ?_; rotate_left
            · intro w' hw'; go_simp; (try with_reducible rfl)
            simp only [st0_, st1_]
            refine opR_ 16 45 (v := ?_) ?_ ?_; rotate_left
            · intro w' hw'; go_simp; (try with_reducible rfl)
            simp only [st0_, st1_]
            refine opR_ 17 46 (v := ?_) ?_ ?_; rotate_left
            · intro w' hw'; go_simp; (try with_reducible rfl)
            simp only [st0_, st1_]
            refine opR_ 18 47 (v := ?_) ?_ ?_; rotate_left
            · intro w' hw'; go_simp; (try with_reducible rfl)
            simp only [st0_, st1_]
            refine opR_ 19 48 (v := ?_) ?_ ?_; rotate_left
            · intro w' hw'; go_simp; (try with_reducible rfl)
            simp only [st0_, st1_]
            refine opR_ 20 49 (v := ?_) ?_ ?_; rotate_left
            · intro w' hw'; go_simp; (try with_reducible rfl)
            simp only [st0_, st1_]
            refine opR_ 21 50 (v := ?_) ?_ ?_; rotate_left
            · intro w' hw'; go_simp; (try with_reducible rfl)
            simp only [st0_, st1_]
            refine opR_ 22 51 (v := ?_) ?_ ?_; rotate_left
            · intro w' hw'; go_simp; (try with_reducible rfl)
            simp only [st0_, st1_]
            refine opR_ 23 52 (v := ?_) ?_ ?_; rotate_left
            · intro w' hw'; go_simp; (try with_reducible rfl)
            simp only [st0_, st1_]
            refine opR_ 24 53 (v := ?_) ?_ ?_; rotate_left
            · intro w' hw'; go_simp; (try with_reducible rfl)
            simp only [st0_, st1_]
            refine opX_ 25 54 ?_
            apply Exists.intro
            apply And.intro
            · exact yr_skip (by rfl)
            simp only [st0_, st1_]
            refine opX_ 26 55 ?_
            apply Exists.intro
            apply And.intro
            · exact yr_skip (by rfl)
            simp only [st0_, st1_]
            refine opX_ 27 56 ?_
            apply Exists.intro
            apply And.intro
            · exact yr_skip (by rfl)
            simp only [st0_, st1_]
            refine opX_ 28 57 ?_
            apply Exists.intro
            apply And.intro
            · exact yr_skip (by rfl)
            simp only [st0_, st1_]
            refine opX_ 29 58 ?_
            apply Exists.intro
            apply And.intro
            · exact yr_skip (by rfl)
            simp only [st0_, st1_]
            refine opX_ 30 59 ?_
            apply Exists.intro
            apply And.intro
            · exact yr_skip (by rfl)
            simp only [st0_, st1_]
            refine opX_ 31 60 ?_
            apply Exists.intro
            apply And.intro
            · exact yr_skip (by rfl)
            simp only [st0_, st1_]
            refine opX_ 32 61 ?_
            apply Exists.intro
            apply And.intro
            · exact yr_skip (by rfl)
            simp only [st0_, st1_]
            refine opX_ 33 62 ?_
            apply Exists.intro
            apply And.intro
            · exact yr_skip (by rfl)
            simp only [st0_, st1_]
            refine opX_ 34 63 ?_
            apply Exists.intro
            apply And.intro
            · exact yr_skip (by rfl)
            simp only [st0_, st1_]
            refine opX_ 35 64 ?_
            apply Exists.intro
            apply And.intro
            · exact yr_skip (by rfl)
            simp only [st0_, st1_]
            refine opR_ 36 65 (v := ?_) ?_ ?_; rotate_left
            · intro w' hw'; go_simp; (try with_reducible rfl)
            simp only [st0_, st1_]
            refine opR_ 37 66 (v := ?_) ?_ ?_; rotate_left
            · intro w' hw'; go_simp; (try with_reducible rfl)
            simp only [st0_, st1_]
            refine opX_ 38 67 ?_
            apply Exists.intro
            apply And.intro
            · exact yr_skip (by rfl)
            simp only [st0_, st1_]
            refine opX_ 39 68 ?_
            apply Exists.intro
            apply And.intro
            · exact yr_skip (by rfl)
            simp only [st0_, st1_]
            refine opX_ 40 69 ?_
            apply Exists.intro
            apply And.intro
            · exact yr_skip (by rfl)
            simp only [st0_, st1_]
            refine opX_ 41 70 ?_
            apply Exists.intro
            apply And.intro
            · exact yr_skip (by rfl)
            simp only [st0_, st1_]
            refine opX_ 42 71 ?_
            apply Exists.intro
            apply And.intro
            · exact yr_skip (by rfl)
            simp only [st0_, st1_]
            refine opX_ 43 72 ?_
            apply Exists.intro
            apply And.intro
            · exact yr_skip (by rfl)
            simp only [st0_, st1_]
            refine opX_ 44 73 ?_
            apply Exists.intro
            apply And.intro
            · exact yr_skip (by rfl)
            simp only [st0_, st1_]
            refine opX_ 45 74 ?_
            apply Exists.intro
            apply And.intro
            · exact yr_skip (by rfl)
            simp only [st0_, st1_]
            refine opX_ 46 75 ?_
            apply Exists.intro
            apply And.intro
            · exact yr_skip (by rfl)
            simp only [st0_, st1_]
            refine opX_ 47 76 ?_
            apply Exists.intro
            apply And.intro
            · exact yr_skip (by rfl)
            simp only [st0_, st1_]
            refine opX_ 48 77 ?_
            apply Exists.intro
            apply And.intro
            · exact yr_skip (by rfl)
            simp only [st0_, st1_]
            refine opR_ 49 78 (v := ?_) ?_ ?_; rotate_left
            · intro w' hw'; go_simp; (try with_reducible rfl)
            simp only [st0_, st1_]
            refine opR_ 50 79 (v := ?_) ?_ ?_; rotate_left
            · intro w' hw'; go_simp; (try with_reducible rfl)
            simp only [st0_, st1_]
            refine opX_ 51 80 ?_
            apply Exists.intro
            apply And.intro
            · exact yr_skip (by rfl)
            simp only [st0_, st1_]
            refine opX_ 52 81 ?_
            apply Exists.intro
            apply And.intro
            · exact yr_skip (by rfl)
            simp only [st0_, st1_]
            refine opR_ 53 82 (v := ?_) ?_ ?_; rotate_left
            · intro w' hw'; go_simp; (try with_reducible rfl)
            simp only [st0_, st1_]
            refine wpR_done (by kernel_rfl) ?_ _
            intro W9 hw9
            have HBz := Lib.hid (bel_bl HB3.out (bel_bl (bel_dr (Below.refl wq.heap.size wq)) hw9))
            clear hw9 q0 q1 la0 la1 la2 la3 lb0 lb1 lb2 lb3 HB3
            go_wp2
            go_ret
            exact ⟨by rw [Hno.out]; rfl, HBz.out⟩
        · clear Geo
          have q0 : ((k1 : Int) != l1) = true := bne_iff_ne.2 e0
          have Hno : RowKit.Hid (R = false) := Lib.hid (Hdec.out.symm.trans (decide_eq_false (map_ne_at sdT HX.out HY.out (fun q => e0 (by have := congrArg (fun z : SD => z.1.1) q; exact this)))))
          clear e0
          refine wp_region_reg (Nil_) (by kernel_rfl) ?_
          refine opR_ 0 29 (v := ?_) ?_ ?_; rotate_left
          · intro w' hw'; go_simp; (try with_reducible rfl)
          simp only [st0_, st1_]
          refine opR_ 1 30 (v := ?_) ?_ ?_; rotate_left
          · intro w' hw'; go_simp; (try with_reducible rfl)
          simp only [st0_, st1_]
          refine opR_ 2 31 (v := ?_) ?_ ?_; rotate_left
          · intro w' hw'; go_simp; (try with_reducible rfl)
          simp only [st0_, st1_]
          refine opR_ 3 32 (v := ?_) ?_ ?_; rotate_left
          · intro w' hw'; go_simp; (try with_reducible rfl)
          simp only [st0_, st1_]
          refine opR_ 4 33 (v := ?_) ?_ ?_; rotate_left
          · intro w' hw'; go_simp; (try with_reducible rfl)
          simp only [st0_, st1_]
          refine opR_ 5 34 (v := ?_) ?_ ?_; rotate_left
          · intro w' hw'; go_simp; (try with_reducible rfl)
          simp only [st0_, st1_]
          refine opR_ 6 35 (v := ?_) ?_ ?_; rotate_left
          · intro w' hw'; go_simp; (try with_reducible rfl)
          simp only [st0_, st1_]
          refine opR_ 7 36 (v := ?_) ?_ ?_; rotate_left
          · intro w' hw'; go_simp; (try with_reducible rfl)
          simp only [st0_, st1_]
          refine opR_ 8 37 (v := ?_) ?_ ?_; rotate_left
          · intro w' hw'; go_simp; (try with_reducible rfl)
          simp only [st0_, st1_]
          refine opR_ 9 38 (v := ?_) ?_ ?_; rotate_left
          · intro w' hw'; go_simp; (try with_reducible rfl)
          simp only [st0_, st1_]
          refine opR_ 10 39 (v := ?_) ?_ ?_; rotate_left
          · intro w' hw'; go_simp; (try with_reducible rfl)
          simp only [st0_, st1_]
          refine opR_ 11 40 (v := ?_) ?_ ?_; rotate_left
          · intro w' hw'; go_simp; (try with_reducible rfl)
          simp only [st0_, st1_]
          refine opX_ 12 41 ?_
          apply Exists.intro
          apply And.intro
          · exact yr_skip (by rfl)
          simp only [st0_, st1_]
          refine opX_ 13 42 ?_
          apply Exists.intro
          apply And.intro
          · exact yr_skip (by rfl)
          simp only [st0_, st1_]
          refine opX_ 14 43 ?_
          apply Exists.intro
          apply And.intro
          · exact yr_skip (by rfl)
          simp only [st0_, st1_]
          refine opX_ 15 44 ?_
          apply Exists.intro
          apply And.intro
          · exact yr_skip (by rfl)
          simp only [st0_, st1_]
          refine opX_ 16 45 ?_
          apply Exists.intro
          apply And.intro
          · exact yr_skip (by rfl)
          simp only [st0_, st1_]
          refine opX_ 17 46 ?_
          apply Exists.intro
          apply And.intro
          · exact yr_skip (by rfl)
          simp only [st0_, st1_]
          refine opX_ 18 47 ?_
          apply Exists.intro
          apply And.intro
          · exact yr_skip (by rfl)
          simp only [st0_, st1_]
          refine opX_ 19 48 ?_
          apply Exists.intro
          apply And.intro
          · exact yr_skip (by rfl)
          simp only [st0_, st1_]
          refine opX_ 20 49 ?_
          apply Exists.intro
          apply And.intro
          · exact yr_skip (by rfl)
          simp only [st0_, st1_]
          refine opX_ 21 50 ?_
          apply Exists.intro
          apply And.intro
          · exact yr_skip (by rfl)
          simp only [st0_, st1_]
          refine opX_ 22 51 ?_
          apply Exists.intro
          apply And.intro
          · exact yr_skip (by rfl)
          simp only [st0_, st1_]
          refine opR_ 23 52 (v := ?_) ?_ ?_; rotate_left
          · intro w' hw'; go_simp; (try with_reducible rfl)
          simp only [st0_, st1_]
          refine opR_ 24 53 (v := ?_) ?_ ?_; rotate_left
          · intro w' hw'; go_simp; (try with_reducible rfl)
          simp only [st0_, st1_]
          refine opX_ 25 54 ?_
          apply Exists.intro
          apply And.intro
          · exact yr_skip (by rfl)
          simp only [st0_, st1_]
          refine opX_ 26 55 ?_
          apply Exists.intro
          apply And.intro
          · exact yr_skip (by rfl)
          simp only [st0_, st1_]
          refine opX_ 27 56 ?_
          apply Exists.intro
          apply And.intro
          · exact yr_skip (by rfl)
          simp only [st0_, st1_]
          refine opX_ 28 57 ?_
          apply Exists.intro
          apply And.intro
          · exact yr_skip (by rfl)
          simp only [st0_, st1_]
          refine opX_ 29 58 ?_
          apply Exists.intro
          apply And.intro
          · exact yr_skip (by rfl)
          simp only [st0_, st1_]
          refine opX_ 30 59 ?_
          apply Exists.intro
          apply And.intro
          · exact yr_skip (by rfl)
          simp only [st0_, st1_]
          refine opX_ 31 60 ?_
          apply Exists.intro
          apply And.intro
          · exact yr_skip (by rfl)
          simp only [st0_, st1_]
          refine opX_ 32 61 ?_
          apply Exists.intro
          apply And.intro
          · exact yr_skip (by rfl)
          simp only [st0_, st1_]
          refine opX_ 33 62 ?_
          apply Exists.intro
          apply And.intro
          · exact yr_skip (by rfl)
          simp only [st0_, st1_]
          refine opX_ 34 63 ?_
          apply Exists.intro
          apply And.intro
          · exact yr_skip (by rfl)
          simp only [st0_, st1_]
          refine opX_ 35 64 ?_
          apply Exists.intro
          apply And.intro
          · exact yr_skip (by rfl)
          simp only [st0_, st1_]
          refine opR_ 36 65 (v := ?_) ?_ ?_; rotate_left
          · intro w' hw'; go_simp; (try with_reducible rfl)
          simp only [st0_, st1_]
          refine opR_ 37 66 (v := ?_) ?_ ?_; rotate_left
          · intro w' hw'; go_simp; (try with_reducible rfl)
          simp only [st0_, st1_]
          refine opX_ 38 67 ?_
          apply Exists.intro
          apply And.intro
          · exact yr_skip (by rfl)
          simp only [st0_, st1_]
          refine opX_ 39 68 ?_
          apply Exists.intro
          apply And.intro
          · exact yr_skip (by rfl)
          simp only [st0_, st1_]
          refine opX_ 40 69 ?_
          apply Exists.intro
          apply And.intro
          · exact yr_skip (by rfl)
          simp only [st0_, st1_]
          refine opX_ 41 70 ?_
          apply Exists.intro
          apply And.intro
          · exact yr_skip (by rfl)
          simp only [st0_, st1_]
          refine opX_ 42 71 ?_
          apply Exists.intro
          apply And.intro
          · exact yr_skip (by rfl)
          simp only [st0_, st1_]
          refine opX_ 43 72 ?_
          apply Exists.intro
          apply And.intro
          · exact yr_skip (by rfl)
          simp only [st0_, st1_]
          refine opX_ 44 73 ?_
          apply Exists.intro
          apply And.intro
          · exact yr_skip (by rfl)
          simp only [st0_, st1_]
          refine opX_ 45 74 ?_
          apply Exists.intro
          apply And.intro
          · exact yr_skip (by rfl)
          simp only [st0_, st1_]
          refine opX_ 46 75 ?_
          apply Exists.intro
          apply And.intro
          · exact yr_skip (by rfl)
          simp only [st0_, st1_]
          refine opX_ 47 76 ?_
          apply Exists.intro
          apply And.intro
          · exact yr_skip (by rfl)
          simp only [st0_, st1_]
          refine opX_ 48 77 ?_
          apply Exists.intro
          apply And.intro
          · exact yr_skip (by rfl)
          simp only [st0_, st1_]
          refine opR_ 49 78 (v := ?_) ?_ ?_; rotate_left
          · intro w' hw'; go_simp; (try with_reducible rfl)
          simp only [st0_, st1_]
          refine opR_ 50 79 (v := ?_) ?_ ?_; rotate_left
          · intro w' hw'; go_simp; (try with_reducible rfl)
          simp only [st0_, st1_]
          refine opX_ 51 80 ?_
          apply Exists.intro
          apply And.intro
          · exact yr_skip (by rfl)
          simp only [st0_, st1_]
          refine opX_ 52 81 ?_
          apply Exists.intro
          apply And.intro
          · exact yr_skip (by rfl)
          simp only [st0_, st1_]
          refine opR_ 53 82 (v := ?_) ?_ ?_; rotate_left
          · intro w' hw'; go_simp; (try with_reducible rfl)
          simp only [st0_, st1_]
          refine wpR_done (by kernel_rfl) ?_ _
          intro W9 hw9
          have HBz := Lib.hid (bel_bl HB3.out (bel_bl (bel_dr (Below.refl wq.heap.size wq)) hw9))
          clear hw9 q0 la0 la1 la2 la3 lb0 lb1 lb2 lb3 HB3
          go_wp2
          go_ret
          exact ⟨by rw [Hno.out]; rfl, HBz.out⟩
      · obtain rfl : n = j := by omega
        have hp := HP.out
        rw [List.take_of_length_le (by rw [Hl.out]; exact Nat.le_refl _), List.take_of_length_le (by rw [Hl'.out]; exact Nat.le_refl _)] at hp
        have hR : true = R := (decide_eq_true hp).symm.trans Hdec.out
        subst hR
        clear hp HP
        go_wp2
        go_ret
        exact ⟨rfl, HB.out⟩
  · have hd : decide (Ls.map sdT = Ms.map sdT) = false := decide_eq_false (fun q => hnn (by have := congrArg List.length q; rw [List.length_map, List.length_map, Hl.out, Hl'.out] at this; exact this))
    rw [hd]
    have hq : ((n : Int) != (n' : Int)) = true := bne_iff_ne.2 (by omega)
    clear hd
    go_enter Try.func12, Try.ntmps12
    go_wp2
    go_ret
    exact ⟨rfl, HB0.out⟩
end Go.Proofs.Ytinfbaflkjghhaa
/- The law's few: at most 30 steps, of 8 operations, texts cut. -/
namespace Go.Proofs.Ytinfbaflkjghhaa
open Go.RowKit
theorem rowsS1 (x : StT) : rowsV stC [x] = stC x := by simp [rowsV]
theorem info_stp : (Try.prog.info? 30).map (fun i => (i.zero, i.size, i.bytes)) = some (some (.agg #[.int .i64 0, .int .i64 0, .int .i64 0, .int .i64 0, .slice none 0 0]), 5, 56) := by kernel_rfl
/-- A row of steps of the call's own, and what lies behind it. -/
structure StW (lo : Nat) (W : World) (v : Value) (n : Nat) (Ts : List StT) : Prop where
  row : W.ownsRow lo 30 5 v n (rowsV stC Ts)
  each : ∀ s ∈ Ts, W.ownsRow lo 53 20 (.slice s.2.1 s.2.2.1 s.2.2.2.1) s.2.2.1 (rowsV opCells s.2.2.2.2)
theorem StW.up {lo n : Nat} {W W' : World} {v : Value} {Ts : List StT} (h : StW lo W v n Ts) (hb : Below W.heap.size W W') : StW lo W' v n Ts := ⟨own_up h.row hb, fun s hs => own_up (h.each s hs) hb⟩
theorem StW.rd {lo n c : Nat} {W : World} {A : Option Addr} {Ts : List StT} (h : StW lo W (.slice A n c) n Ts) (hf : ∀ s ∈ Ts, s.2.2.1 ≤ 1000000) (ht : ∀ s ∈ Ts, ∀ o ∈ s.2.2.2.2, o.t.size ≤ maxLen) (hi : ∀ s ∈ Ts, In4 s.1) : StRd W A n c Ts :=
  ⟨own_rds h.row, fun s hs => ⟨own_rds (h.each s hs), hf s hs, ht s hs, hi s hs⟩⟩
end Go.Proofs.Ytinfbaflkjghhaa
