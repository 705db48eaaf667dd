/- Several texts in one. -/
import Derived.Test.YtinfbaflkjghhaaSEA
import Derived.Test.YtinfbaflkjghhaaSEE
import Derived.Deep.CutBlock
import Derived.Test.YtinfbaflkjghhaaShelf
/- Take: bytes taken as a step, and the document's own. -/
set_option linter.unusedSimpArgs false
set_option linter.unusedVariables false
namespace Go.Proofs.Ytinfbaflkjghhaa
open Go.RowKit
theorem rds_mid {w : World} {Bd n c i k m : Nat} {A : Option Addr} {L : List Nat} (h : RdS w Bd 1 A n c (rowsV f8 L)) (hik : i ≤ k) (hk : k ≤ n) (hm : k - i = m) : RdS w Bd 1 (if c = i then A else A.map (·.add (i * 1))) m (c - i) (rowsV f8 ((L.take k).drop i)) := by
  subst hm
  have h1 := (h.take_ k hk).low_ hik
  rw [rowsV_drop f8 f8_len, rowsV_take f8 f8_len]
  exact h1
theorem rds_low8 {w : World} {Bd n c i m : Nat} {A : Option Addr} {L : List Nat} (h : RdS w Bd 1 A n c (rowsV f8 L)) (hi : i ≤ n) (hm : n - i = m) : RdS w Bd 1 (if c = i then A else A.map (·.add (i * 1))) m (c - i) (rowsV f8 (L.drop i)) := by
  subst hm
  have h1 := h.low_ hi
  rw [rowsV_drop f8 f8_len]
  exact h1
theorem takenum_p (A : Option Addr) (c : Nat) (L : List Nat) (w : World) (hl : L.length = 8) (h : RdS w w.heap.size 1 A 8 c (rowsV f8 L)) (hb : ∀ b ∈ L, b < 256) (y : Int) (hy : num8 L = y) : Calls Try.prog 20 #[.slice A 8 c] w fun e w' => ∃ A' n' c', e = .returned (.tuple #[.int .i64 y, .slice A' n' c', .bool true]) ∧ Below w.heap.size w w' := by
  have e := takenum_any A c L w (by rw [hl]; exact h) (by omega) hb
  rw [hl] at e
  refine e.mono ?_
  rintro e w' ⟨A', n', c', rfl, -, -, h4⟩
  rw [if_pos (by omega), List.take_of_length_le (by omega), hy, decide_eq_true (show 8 ≤ L.length by omega)]
  exact ⟨A', n', c', rfl, h4⟩
theorem owhole_p (A : Option Addr) (n c : Nat) (B : List Nat) (w : World) (hl : B.length = n) (h : RdS w w.heap.size 1 A n c (rowsV f8 B)) (hn : n ≤ 90000) (hb : ∀ b ∈ B, b < 256) :
    Calls Try.prog 21 #[.slice A n c] w fun e w' => ∃ A1 k1, e = .returned (.tuple #[.agg #[.slice A1 (whV B).length k1], .int .i64 (whE B)]) ∧ w'.ownsRow w.heap.size 53 20 (.slice A1 (whV B).length k1) (whV B).length (rowsV opCells (whV B)) ∧ Below w.heap.size w w' := by
  subst hl
  exact owhole_any A c B w h hn hb
def h4A (x : H4) (k : Nat) : List Value := [.int .i64 (if 0 < k then x.1 else 0), .int .i64 (if 1 < k then x.2.1 else 0), .int .i64 (if 2 < k then x.2.2.1 else 0), .int .i64 (if 3 < k then x.2.2.2 else 0)]
theorem h4A_set (x : H4) (k : Nat) (hk : k < 4) : (h4A x k).set k (.int .i64 (h4G x k)) = h4A x (k + 1) := by
  have : k = 0 ∨ k = 1 ∨ k = 2 ∨ k = 3 := by omega
  rcases this with rfl | rfl | rfl | rfl <;> rfl
theorem h4A_get (x : H4) (k : Nat) (hk : k < 4) : (h4A x k)[k]? = some (.int .i64 0) := by
  have : k = 0 ∨ k = 1 ∨ k = 2 ∨ k = 3 := by omega
  rcases this with rfl | rfl | rfl | rfl <;> rfl
theorem h4V_get {B : List Nat} {k : Nat} (hk : k < 4) (hl : 32 ≤ B.length) : num8 ((B.take (8 * (k + 1))).drop (8 * k)) = h4G (h4V B) k ∧ ((B.take (8 * (k + 1))).drop (8 * k)).length = 8 := by
  have e : (B.take (8 * (k + 1))).drop (8 * k) = (B.drop (8 * k)).take 8 := by rw [List.drop_take]; congr 1; omega
  rw [e]
  refine ⟨?_, by rw [List.length_take, List.length_drop]; omega⟩
  have : k = 0 ∨ k = 1 ∨ k = 2 ∨ k = 3 := by omega
  rcases this with rfl | rfl | rfl | rfl <;> rfl
/-- A step of the call's own, and an error. -/
def GivesS (w : World) (x : SD) (E : Int) (e : Ending) (w' : World) : Prop :=
  ∃ A n c, e = .returned (.tuple #[.agg (stC (x.1, (A, n, c, x.2))).toArray, .int .i64 E]) ∧ n = x.2.length ∧ w'.ownsRow w.heap.size 53 20 (.slice A n c) n (rowsV opCells x.2) ∧ Below w.heap.size w w'
theorem tk_no {B : List Nat} (h : okS B = false) : tkS B = zS ∧ tkSE B = 240 := by
  unfold tkS tkSE
  rw [h]
  exact ⟨rfl, rfl⟩
theorem tk_yes {B : List Nat} (h : okS B = true) : tkS B = (h4V B, whV (B.drop 32)) ∧ tkSE B = 0 := by
  unfold tkS tkSE
  rw [h]
  exact ⟨rfl, rfl⟩
theorem okS_short {B : List Nat} (h : B.length < 32) : okS B = false := by
  unfold okS
  rw [decide_eq_false (by omega), decide_eq_false (by omega)]
  rfl
theorem okS_head {B : List Nat} (h : B.length = 32) : okS B = true ∧ whV (B.drop 32) = [] := by
  unfold okS
  rw [decide_eq_true h, List.drop_eq_nil_of_le (by omega), whV_nil]
  exact ⟨rfl, rfl⟩
theorem okS_long {B : List Nat} (h : 32 < B.length) : okS B = okW (B.drop 32) := by
  unfold okS
  rw [decide_eq_false (by omega), decide_eq_true h]
  simp
theorem gives_no {w W : World} {B : List Nat} (h : okS B = false) (hb : Below w.heap.size w W) : GivesS w (tkS B) (tkSE B) (.returned (.tuple #[.agg #[.int .i64 0, .int .i64 0, .int .i64 0, .int .i64 0, .slice none 0 0], .int .i64 240])) W := by
  rw [(tk_no h).1, (tk_no h).2]
  exact ⟨none, 0, 0, rfl, rfl, World.ownsRow_nil _ _ _ _, hb⟩
set_option maxRecDepth 100000 in
set_option maxHeartbeats 4000000 in
theorem take23_any (A : Option Addr) (n c : Nat) (B : List Nat) (w : World) (hl : B.length = n) (h : RdS w w.heap.size 1 A n c (rowsV f8 B)) (hn : n ≤ 90000) (hb : ∀ b ∈ B, b < 256) :
    Calls Try.prog 10 #[.slice A n c] w (GivesS w (tkS B) (tkSE B)) := by
  have HR := Lib.hid (h.al (.cells #[.int .i64 0, .int .i64 0, .int .i64 0, .int .i64 0, .slice none 0 0] 30))
  have HX : RowKit.Hid (Whole (w.alloc (.cells #[.int .i64 0, .int .i64 0, .int .i64 0, .int .i64 0, .slice none 0 0] 30)) w.heap.size 30 [.int .i64 0, .int .i64 0, .int .i64 0, .int .i64 0, .slice none 0 0]) := Lib.hid (Whole.new_ _ _ [.int .i64 0, .int .i64 0, .int .i64 0, .int .i64 0, .slice none 0 0])
  have HB : RowKit.Hid (Below w.heap.size w (w.alloc (.cells #[.int .i64 0, .int .i64 0, .int .i64 0, .int .i64 0, .slice none 0 0] 30))) := Lib.hid (below1 _ _)
  have Hl := Lib.hid hl
  have Hb := Lib.hid hb
  clear h hl hb
  go_enter Try.func10, Try.ntmps10
  go_upto_region 1 with fail
  obtain ⟨W0, gW0⟩ : ∃ z, w.alloc (.cells #[.int .i64 0, .int .i64 0, .int .i64 0, .int .i64 0, .slice none 0 0] 30) = z := ⟨_, rfl⟩
  obtain ⟨b2, gb2⟩ : ∃ z, w.heap.size = z := ⟨_, rfl⟩
  have Lb2 : RowKit.Hid (w.heap.size ≤ b2) := Lib.hid (Nat.le_of_eq gb2)
  rw [gW0] at HR HX HB ⊢
  rw [gb2] at HX ⊢
  clear gW0 gb2
  have HX0 := HX
  have HR0 := HR
  have HB0 := HB
  clear HX HR HB
  by_cases hs : n < 32
  · have hok := okS_short (show B.length < 32 by rw [Hl.out]; exact hs)
    have hz0 : decide ((n : Int) < 32) = true := decide_eq_true (by omega)
    have HY := Lib.hid (((((HX0.out.set_ 0 (.int .i64 0)).set_ 1 (.int .i64 0)).set_ 2 (.int .i64 0)).set_ 3 (.int .i64 0)).set_ 4 (.slice none 0 0))
    have HP : RowKit.Hid (GivesS w (tkS B) (tkSE B) (.returned (.tuple #[.agg #[.int .i64 0, .int .i64 0, .int .i64 0, .int .i64 0, .slice none 0 0], .int .i64 240])) ((((((W0.setCell ⟨b2, 0, none⟩ (.int .i64 0)).setCell ⟨b2, 1, none⟩ (.int .i64 0)).setCell ⟨b2, 2, none⟩ (.int .i64 0)).setCell ⟨b2, 3, none⟩ (.int .i64 0)).setCell ⟨b2, 4, none⟩ (.slice none 0 0)))) := Lib.hid (gives_no hok (((((HB0.out.setCell (p := ⟨b2, 0, none⟩) Lb2.out (.int .i64 0)).setCell (p := ⟨b2, 1, none⟩) Lb2.out (.int .i64 0)).setCell (p := ⟨b2, 2, none⟩) Lb2.out (.int .i64 0)).setCell (p := ⟨b2, 3, none⟩) Lb2.out (.int .i64 0)).setCell (p := ⟨b2, 4, none⟩) Lb2.out (.slice none 0 0)))
    have f0 := HX0.out.free 0
    have f1 := HX0.out.free 1
    have f2 := HX0.out.free 2
    have f3 := HX0.out.free 3
    have f4 := HX0.out.free 4
    have k0 := HX0.out.cell (i := 0) rfl
    have k1 := HX0.out.cell (i := 1) rfl
    have k2 := HX0.out.cell (i := 2) rfl
    have k3 := HX0.out.cell (i := 3) rfl
    have k4 := HX0.out.cell (i := 4) rfl
    clear hok HX0 HR0 HB0
    go_wp2
    exact ret_whole2 rfl b2 rfl rfl HY.out Try.underlying30 rfl (by kernel_rfl) rfl HP.out
  · have hz0 : decide ((n : Int) < 32) = false := decide_eq_false (by omega)
    have h32 : 32 ≤ B.length := by rw [Hl.out]; omega
    obtain ⟨⟨x1, x2, x3, x4⟩, gx⟩ : ∃ z, h4V B = z := ⟨_, rfl⟩
    have Hx := Lib.hid gx
    have H32 := Lib.hid h32
    clear gx h32
    go_upto_region 5 with fail
    have hR := HR0.out.al (.cells #[.int .i64 0, .int .i64 0, .int .i64 0, .int .i64 0] 54)
    have hX := HX0.out.al (.cells #[.int .i64 0, .int .i64 0, .int .i64 0, .int .i64 0] 54)
    have hB := bel_al HB0.out (.cells #[.int .i64 0, .int .i64 0, .int .i64 0, .int .i64 0] 54)
    have hA : Whole (W0.alloc (.cells #[.int .i64 0, .int .i64 0, .int .i64 0, .int .i64 0] 54)) W0.heap.size 54 (h4A (x1, x2, x3, x4) 0) := Whole.new_ W0 54 [.int .i64 0, .int .i64 0, .int .i64 0, .int .i64 0]
    obtain ⟨W1, gW1⟩ : ∃ z, W0.alloc (.cells #[.int .i64 0, .int .i64 0, .int .i64 0, .int .i64 0] 54) = z := ⟨_, rfl⟩
    have hlt4 : b2 < W0.heap.size := HX0.out.lt
    have hlw : w.heap.size ≤ W0.heap.size := HB0.out.size
    obtain ⟨b4, gb4⟩ : ∃ z, W0.heap.size = z := ⟨_, rfl⟩
    rw [gW1] at hR hX hB hA ⊢
    rw [gb4] at hA hlt4 hlw ⊢
    have HR1 := Lib.hid hR
    have HX1 := Lib.hid hX
    have HB1 := Lib.hid hB
    have HA1 := Lib.hid hA
    have N24 : RowKit.Hid (b2 ≠ b4) := Lib.hid (by omega)
    have Lb4 : RowKit.Hid (w.heap.size ≤ b4) := Lib.hid hlw
    have HAf1 : RowKit.Hid (∀ a, A = some a → 0 < n → a.block ≠ b4) := Lib.hid (fun a ha h0 => by have := HR0.out.low a ha h0; omega)
    clear hR hX hB hA gW1 gb4 hlt4 hlw HX0 HR0 HB0
    go_loopw [13] (fun i wr => ∃ k : Nat, k ≤ 4 ∧ i = .int .i64 (k : Int) ∧ RowKit.Hid (Whole wr b4 54 (h4A (x1, x2, x3, x4) k)) ∧ RowKit.Hid (Whole wr b2 30 [.int .i64 0, .int .i64 0, .int .i64 0, .int .i64 0, .slice none 0 0]) ∧ RowKit.Hid (RdS wr wr.heap.size 1 A n c (rowsV f8 B)) ∧ RowKit.Hid (Below w.heap.size w wr)) (fun i _ => 4 - (intOf i).toNat)
    case atStart => exact ⟨0, by omega, rfl, HA1, HX1, HR1, HB1⟩
    case round =>
      clear HA1 HX1 HR1 HB1
      obtain ⟨k, hk, rfl, HA, HX, HR, HB⟩ := hrel
      obtain ⟨wz, gwz⟩ : ∃ z, wr = z := ⟨_, rfl⟩
      rw [gwz] at HA HX HR HB ⊢
      clear gwz
      by_cases hlt : k < 4
      · have hltI : (k : Int) < 4 := by omega
        obtain ⟨k1, gk1⟩ : ∃ z, k + 1 = z := ⟨_, rfl⟩
        obtain ⟨i8, gi8⟩ : ∃ z, 8 * k = z := ⟨_, rfl⟩
        obtain ⟨j8, gj8⟩ : ∃ z, 8 * k1 = z := ⟨_, rfl⟩
        have e1 : IntKind.i64.wrap ((k : Int) * 8) = (i8 : Int) := by rw [show (k : Int) * 8 = (i8 : Int) by omega]; exact IntWalk.i64_in _ (by omega)
        have e2 : IntKind.i64.wrap ((k : Int) + 1) = (k1 : Int) := by rw [show (k : Int) + 1 = (k1 : Int) by omega]; exact IntWalk.i64_in _ (by omega)
        have e3 : IntKind.i64.wrap ((k1 : Int) * 8) = (j8 : Int) := by rw [show (k1 : Int) * 8 = (j8 : Int) by omega]; exact IntWalk.i64_in _ (by omega)
        have hg := h4V_get hlt H32.out
        rw [Hx.out] at hg
        have hset := h4A_set (x1, x2, x3, x4) k hlt
        obtain ⟨y, gy⟩ : ∃ z, h4G (x1, x2, x3, x4) k = z := ⟨_, rfl⟩
        rw [gy] at hg hset
        rw [gk1, gi8, gj8] at hg
        rw [gk1] at hset
        have hcs : i8 ≤ j8 ∧ j8 ≤ n ∧ j8 - i8 = 8 := by omega
        obtain ⟨As, gAs⟩ : ∃ z, (if c = i8 then A else A.map (·.add (i8 * 1))) = z := ⟨_, rfl⟩
        obtain ⟨cs, gcs⟩ : ∃ z, c - i8 = z := ⟨_, rfl⟩
        have hrs := rds_mid HR.out hcs.1 hcs.2.1 hcs.2.2
        rw [gAs, gcs] at hrs
        have HRs := Lib.hid hrs
        have HG := Lib.hid hg
        have HSet := Lib.hid hset
        have HAs := Lib.hid gAs
        have Hcs := Lib.hid (show i8 ≤ j8 ∧ j8 ≤ c ∧ j8 - i8 = 8 from ⟨hcs.1, Nat.le_trans hcs.2.1 HR.out.le, hcs.2.2⟩)
        have Hgc := Lib.hid gcs
        have HLt : RowKit.Hid (∀ b ∈ (B.take j8).drop i8, b < 256) := Lib.hid (fun b hb => Hb.out b (List.mem_of_mem_take (List.mem_of_mem_drop hb)))
        have ha4 := HA.out.cell (i := k) (h4A_get _ k hlt)
        have fa4 := HA.out.free k
        have Hk1 := Lib.hid gk1
        clear hrs hg hset gAs gcs hcs gy gi8 gj8 gk1 ha4 fa4
        go_upto_region 7 with fail
        refine wp_region_lit ?_
        refine wl_read (v := ?_) (some 17) rfl (by rfl) ?_ ?_
        rotate_left
        · go_simp; (try with_reducible rfl)
        simp only [Act.put, stA_, st0_, st1_]
        refine wl_read (v := ?_) (some 18) rfl (by rfl) ?_ ?_
        rotate_left
        · go_simp; (try with_reducible rfl)
        simp only [Act.put, stA_, st0_, st1_]
        refine wl_read (v := ?_) (some 19) rfl (by rfl) ?_ ?_
        rotate_left
        · go_simp; (try with_reducible rfl)
        simp only [Act.put, stA_, st0_, st1_]
        refine wl_read (v := ?_) (some 20) rfl (by rfl) ?_ ?_
        rotate_left
        · go_simp; (try with_reducible rfl)
        simp only [Act.put, stA_, st0_, st1_]
        refine wl_read (v := ?_) (some 21) rfl (by rfl) ?_ ?_
        rotate_left
        · go_simp; (try with_reducible rfl)
        simp only [Act.put, stA_, st0_, st1_]
        refine wl_read (v := ?_) (some 22) rfl (by rfl) ?_ ?_
        rotate_left
        · go_simp; (try with_reducible rfl)
        simp only [Act.put, stA_, st0_, st1_]
        refine wl_read (v := ?_) (some 23) rfl (by rfl) ?_ ?_
        rotate_left
        · go_simp; (try with_reducible rfl)
        simp only [Act.put, stA_, st0_, st1_]
        refine wl_run (some 24) rfl (by rfl) (exec_slice_as 23 5 (.tmp 18) (.tmp 20) (.tmp 23) rfl Try.underlying23 (s := 1) (by kernel_rfl) rfl rfl rfl Hcs.out.1 Hcs.out.2.1 HAs.out Hcs.out.2.2 Hgc.out) ?_
        simp only [Act.put, stA_, st0_, st1_]
        go_wp2_with fail
        refine (takenum_p As cs _ _ HG.out.2 HRs.out HLt.out y HG.out.1).mono ?_
        rintro e w3 ⟨A3, n3, c3, rfl, hb3⟩
        have HA3 := Lib.hid (HA.out.bl hb3)
        have ha4 := HA3.out.cell (i := k) (h4A_get _ k hlt)
        have fa4 := HA3.out.free k
        have HA4 := HA3.out.set_ k (.int .i64 y)
        rw [HSet.out] at HA4
        have HA5 := Lib.hid HA4
        have HX5 := Lib.hid ((HX.out.bl hb3).far (p := ⟨b4, k, none⟩) (show b2 ≠ b4 from N24.out) (.int .i64 y))
        have HR5 : RowKit.Hid (RdS (w3.setCell ⟨b4, k, none⟩ (.int .i64 y)) (w3.setCell ⟨b4, k, none⟩ (.int .i64 y)).heap.size 1 A n c (rowsV f8 B)) := Lib.hid ((HR.out.bl hb3).far (p := ⟨b4, k, none⟩) (fun h0 a ha => HAf1.out a ha h0) (.int .i64 y))
        have HB5 := Lib.hid ((bel_bl HB.out hb3).setCell (p := ⟨b4, k, none⟩) Lb4.out (.int .i64 y))
        clear HA4 hb3 HA HX HR HB HA3 HG HRs HSet HLt e1 e3
        go_wp2
        go_roundw
        case rel => exact ⟨k + 1, by omega, by first | go_num | (rw [Hk1.out]), by rw [Hk1.out]; exact HA5, HX5, HR5, HB5⟩
        case measure => have := Hk1.out; simp [intOf]; omega
      · obtain rfl : 4 = k := by omega
        have HA4 : RowKit.Hid (Whole wz b4 54 [.int .i64 x1, .int .i64 x2, .int .i64 x3, .int .i64 x4]) := Lib.hid HA.out
        have a0 := HA4.out.cell (i := 0) rfl
        have a1 := HA4.out.cell (i := 1) rfl
        have a2 := HA4.out.cell (i := 2) rfl
        have a3 := HA4.out.cell (i := 3) rfl
        clear HA hk hlt
        go_upto_region 10 with fail
        have hT : Whole (wz.alloc (.cells #[.int .i64 x1, .int .i64 x2, .int .i64 x3, .int .i64 x4, .slice none 0 0] 30)) wz.heap.size 30 [.int .i64 x1, .int .i64 x2, .int .i64 x3, .int .i64 x4, .slice none 0 0] := Whole.new_ wz 30 [.int .i64 x1, .int .i64 x2, .int .i64 x3, .int .i64 x4, .slice none 0 0]
        have hX := HX.out.al (.cells #[.int .i64 x1, .int .i64 x2, .int .i64 x3, .int .i64 x4, .slice none 0 0] 30)
        have hR := HR.out.al (.cells #[.int .i64 x1, .int .i64 x2, .int .i64 x3, .int .i64 x4, .slice none 0 0] 30)
        have hB := bel_al HB.out (.cells #[.int .i64 x1, .int .i64 x2, .int .i64 x3, .int .i64 x4, .slice none 0 0] 30)
        have hl2 : b2 < wz.heap.size := HX.out.lt
        have hlw : w.heap.size ≤ wz.heap.size := HB.out.size
        obtain ⟨wy, gwy⟩ : ∃ z, wz.alloc (.cells #[.int .i64 x1, .int .i64 x2, .int .i64 x3, .int .i64 x4, .slice none 0 0] 30) = z := ⟨_, rfl⟩
        obtain ⟨bt, gbt⟩ : ∃ z, wz.heap.size = z := ⟨_, rfl⟩
        rw [gwy] at hT hX hR hB ⊢
        rw [gbt] at hT hl2 hlw ⊢
        have N2t : RowKit.Hid (b2 ≠ bt) := Lib.hid (by omega)
        have Lbt : RowKit.Hid (w.heap.size ≤ bt) := Lib.hid hlw
        clear gwy gbt hl2 hlw HA4 a0 a1 a2 a3 HX HR HB wz
        obtain ⟨wz, gwz⟩ : ∃ z, wy = z := ⟨_, rfl⟩
        rw [gwz] at hT hX hR hB ⊢
        clear gwz
        have HX := Lib.hid hX
        have HT := Lib.hid hT
        have HR := Lib.hid hR
        have HB := Lib.hid hB
        clear hX hT hR hB
        by_cases h32 : n = 32
        · have ho := okS_head (Hl.out.trans h32)
          have hv : tkS B = ((x1, x2, x3, x4), []) ∧ tkSE B = 0 := by
            have := tk_yes ho.1
            rw [ho.2, Hx.out] at this
            exact this
          have HY := Lib.hid (((((HX.out.set_ 0 (.int .i64 x1)).set_ 1 (.int .i64 x2)).set_ 2 (.int .i64 x3)).set_ 3 (.int .i64 x4)).set_ 4 (.slice none 0 0))
          have HP : RowKit.Hid (GivesS w (tkS B) (tkSE B) (.returned (.tuple #[.agg #[.int .i64 x1, .int .i64 x2, .int .i64 x3, .int .i64 x4, .slice none 0 0], .int .i64 0])) ((((((wz.setCell ⟨b2, 0, none⟩ (.int .i64 x1)).setCell ⟨b2, 1, none⟩ (.int .i64 x2)).setCell ⟨b2, 2, none⟩ (.int .i64 x3)).setCell ⟨b2, 3, none⟩ (.int .i64 x4)).setCell ⟨b2, 4, none⟩ (.slice none 0 0)))) := Lib.hid (by
            rw [hv.1, hv.2]
            exact ⟨none, 0, 0, rfl, rfl, World.ownsRow_nil _ _ _ _, (((((HB.out.setCell (p := ⟨b2, 0, none⟩) Lb2.out (.int .i64 x1)).setCell (p := ⟨b2, 1, none⟩) Lb2.out (.int .i64 x2)).setCell (p := ⟨b2, 2, none⟩) Lb2.out (.int .i64 x3)).setCell (p := ⟨b2, 3, none⟩) Lb2.out (.int .i64 x4)).setCell (p := ⟨b2, 4, none⟩) Lb2.out (.slice none 0 0))⟩)
          have f0 := HX.out.free 0
          have f1 := HX.out.free 1
          have f2 := HX.out.free 2
          have f3 := HX.out.free 3
          have f4 := HX.out.free 4
          have k0 := HX.out.cell (i := 0) rfl
          have k1 := HX.out.cell (i := 1) rfl
          have k2 := HX.out.cell (i := 2) rfl
          have k3 := HX.out.cell (i := 3) rfl
          have k4 := HX.out.cell (i := 4) rfl
          have t0 := HT.out.cell (i := 0) rfl
          have t1 := HT.out.cell (i := 1) rfl
          have t2 := HT.out.cell (i := 2) rfl
          have t3 := HT.out.cell (i := 3) rfl
          have t4 := HT.out.cell (i := 4) rfl
          have hz1 : ((n : Int) == 32) = true := by rw [h32]; rfl
          clear ho hv HX HT HR HB h32
          go_wp2
          exact ret_whole2 rfl b2 rfl rfl HY.out Try.underlying30 rfl (by kernel_rfl) rfl HP.out
        · have hz1 : ((n : Int) == 32) = false := beq_eq_false_iff_ne.2 (by omega)
          have hgt : 32 < B.length := by rw [Hl.out]; omega
          obtain ⟨m, gm⟩ : ∃ z, n - 32 = z := ⟨_, rfl⟩
          obtain ⟨As, gAs⟩ : ∃ z, (if c = 32 then A else A.map (·.add (32 * 1))) = z := ⟨_, rfl⟩
          obtain ⟨cs, gcs⟩ : ∃ z, c - 32 = z := ⟨_, rfl⟩
          have hrs := rds_low8 HR.out (by omega) gm
          rw [gAs, gcs] at hrs
          have HRs := Lib.hid hrs
          have HL2 : RowKit.Hid ((B.drop 32).length = m) := Lib.hid (by rw [List.length_drop, Hl.out]; exact gm)
          have Hm9 : RowKit.Hid (m ≤ 90000) := Lib.hid (by omega)
          have Hok := Lib.hid (okS_long hgt)
          have HAs := Lib.hid gAs
          have Hgm := Lib.hid gm
          have Hgc := Lib.hid gcs
          have H32 : RowKit.Hid (32 ≤ n) := Lib.hid (by omega)
          clear hrs gAs gm gcs h32
          go_upto_region 12 with fail
          refine wp_region_lit ?_
          refine wl_read (v := ?_) (some 45) rfl (by rfl) ?_ ?_
          rotate_left
          · go_simp; (try with_reducible rfl)
          simp only [Act.put, stA_, st0_, st1_]
          refine wl_run (some 46) rfl (by rfl) (exec_slice_low_as 23 5 (.tmp 45) (.const (.int .i64 32)) rfl Try.underlying23 (s := 1) (by kernel_rfl) rfl rfl H32.out HAs.out Hgm.out Hgc.out) ?_
          simp only [Act.put, stA_, st0_, st1_]
          go_wp2_with fail
          refine (owhole_p As m cs (B.drop 32) _ HL2.out HRs.out Hm9.out (drop_lt Hb.out 32)).mono ?_
          rintro e w5 ⟨A5, c5, rfl, ho5, hb5⟩
          have HX5 := Lib.hid ((HX.out.bl hb5).al (.cells #[.slice A5 (whV (B.drop 32)).length c5] 28))
          have HT5 := Lib.hid ((HT.out.bl hb5).al (.cells #[.slice A5 (whV (B.drop 32)).length c5] 28))
          have HB5 := Lib.hid (bel_al (bel_bl HB.out hb5) (.cells #[.slice A5 (whV (B.drop 32)).length c5] 28))
          have HO5 := Lib.hid (own_up ho5 (below1 w5 (.cells #[.slice A5 (whV (B.drop 32)).length c5] 28)))
          have HE5 : RowKit.Hid (Whole (w5.alloc (.cells #[.slice A5 (whV (B.drop 32)).length c5] 28)) w5.heap.size 28 [.slice A5 (whV (B.drop 32)).length c5]) := Lib.hid (Whole.new_ _ _ [_])
          have Lw5 : RowKit.Hid (wz.heap.size ≤ w5.heap.size) := Lib.hid hb5.size
          have Lz : RowKit.Hid (b2 < wz.heap.size ∧ bt < wz.heap.size ∧ w.heap.size ≤ wz.heap.size) := Lib.hid ⟨HX.out.lt, HT.out.lt, HB.out.size⟩
          clear ho5 hb5 HX HT HB HR HRs
          have N2 : RowKit.Hid (some b2 ≠ (Value.slice A5 (whV (B.drop 32)).length c5).ownBlock) := Lib.hid (fun e => by have := (HO5.out.lt b2 e.symm).1; have := Lz.out; have := Lw5.out; omega)
          have Nt : RowKit.Hid (some bt ≠ (Value.slice A5 (whV (B.drop 32)).length c5).ownBlock) := Lib.hid (fun e => by have := (HO5.out.lt bt e.symm).1; have := Lz.out; have := Lw5.out; omega)
          obtain ⟨W5, gW5⟩ : ∃ z, w5.alloc (.cells #[.slice A5 (whV (B.drop 32)).length c5] 28) = z := ⟨_, rfl⟩
          obtain ⟨b5, gb5⟩ : ∃ z, w5.heap.size = z := ⟨_, rfl⟩
          cases hw : okW (B.drop 32) with
          | false =>
            have he : whE (B.drop 32) = 2 := whE_no hw
            have hok : okS B = false := by rw [Hok.out, hw]
            obtain ⟨l, gl⟩ : ∃ z, (whV (B.drop 32)).length = z := ⟨_, rfl⟩
            rw [gl] at HX5 HT5 HB5 HO5 HE5 gW5 ⊢
            rw [he]
            have HX := Lib.hid (gW5 ▸ HX5.out)
            have HBz := Lib.hid (gW5 ▸ HB5.out)
            have HY := Lib.hid (((((HX.out.set_ 0 (.int .i64 0)).set_ 1 (.int .i64 0)).set_ 2 (.int .i64 0)).set_ 3 (.int .i64 0)).set_ 4 (.slice none 0 0))
            have HP : RowKit.Hid (GivesS w (tkS B) (tkSE B) (.returned (.tuple #[.agg #[.int .i64 0, .int .i64 0, .int .i64 0, .int .i64 0, .slice none 0 0], .int .i64 240])) ((((((W5.setCell ⟨b2, 0, none⟩ (.int .i64 0)).setCell ⟨b2, 1, none⟩ (.int .i64 0)).setCell ⟨b2, 2, none⟩ (.int .i64 0)).setCell ⟨b2, 3, none⟩ (.int .i64 0)).setCell ⟨b2, 4, none⟩ (.slice none 0 0)))) := Lib.hid (gives_no hok (((((HBz.out.setCell (p := ⟨b2, 0, none⟩) Lb2.out (.int .i64 0)).setCell (p := ⟨b2, 1, none⟩) Lb2.out (.int .i64 0)).setCell (p := ⟨b2, 2, none⟩) Lb2.out (.int .i64 0)).setCell (p := ⟨b2, 3, none⟩) Lb2.out (.int .i64 0)).setCell (p := ⟨b2, 4, none⟩) Lb2.out (.slice none 0 0)))
            have f0 := HX.out.free 0
            have f1 := HX.out.free 1
            have f2 := HX.out.free 2
            have f3 := HX.out.free 3
            have f4 := HX.out.free 4
            have k0 := HX.out.cell (i := 0) rfl
            have k1 := HX.out.cell (i := 1) rfl
            have k2 := HX.out.cell (i := 2) rfl
            have k3 := HX.out.cell (i := 3) rfl
            have k4 := HX.out.cell (i := 4) rfl
            clear he hok hw gl HX5 HT5 HB5 HO5 HE5
            go_upto_region 13 with fail
            clear gW5 gb5
            go_wp2
            exact ret_whole2 rfl b2 rfl rfl HY.out Try.underlying30 rfl (by kernel_rfl) rfl HP.out
          | true =>
            have he : whE (B.drop 32) = 0 := by unfold whE; rw [hw]; rfl
            have hok : okS B = true := by rw [Hok.out, hw]
            have hv : tkS B = ((x1, x2, x3, x4), whV (B.drop 32)) ∧ tkSE B = 0 := by
              have := tk_yes hok
              rw [Hx.out] at this
              exact this
            rw [he]
            obtain ⟨V, gV⟩ : ∃ z, whV (B.drop 32) = z := ⟨_, rfl⟩
            rw [gV] at HX5 HT5 HB5 HO5 HE5 gW5 hv N2 Nt ⊢
            obtain ⟨l, gl⟩ : ∃ z, V.length = z := ⟨_, rfl⟩
            rw [gl] at HX5 HT5 HB5 HO5 HE5 gW5 N2 Nt ⊢
            rw [gW5] at HX5 HT5 HB5 HO5 HE5
            rw [gb5] at HE5
            have HT6 := Lib.hid (HT5.out.set_ 4 (.slice A5 l c5))
            have HX6 := Lib.hid (HX5.out.far (p := ⟨bt, 4, none⟩) (show b2 ≠ bt from N2t.out) (.slice A5 l c5))
            have HO6 := Lib.hid (own_cell_far HO5.out (i := 4) Nt.out (.slice A5 l c5))
            have HB6 := Lib.hid (HB5.out.setCell (p := ⟨bt, 4, none⟩) Lbt.out (.slice A5 l c5))
            have ft := HT5.out.free 4
            have kt := HT5.out.cell (i := 4) rfl
            have ke := HE5.out.cell (i := 0) rfl
            go_upto_region 15 with fail
            clear gW5 gb5
            go_upto_region 16 with fail
            clear ft kt ke
            obtain ⟨W6, gW6⟩ : ∃ z, W5.setCell ⟨bt, 4, none⟩ (.slice A5 l c5) = z := ⟨_, rfl⟩
            rw [gW6] at HT6 HX6 HO6 HB6 ⊢
            clear gW6
            have HY := Lib.hid (((((HX6.out.set_ 0 (.int .i64 x1)).set_ 1 (.int .i64 x2)).set_ 2 (.int .i64 x3)).set_ 3 (.int .i64 x4)).set_ 4 (.slice A5 l c5))
            have HP : RowKit.Hid (GivesS w (tkS B) (tkSE B) (.returned (.tuple #[.agg #[.int .i64 x1, .int .i64 x2, .int .i64 x3, .int .i64 x4, .slice A5 l c5], .int .i64 0])) ((((((W6.setCell ⟨b2, 0, none⟩ (.int .i64 x1)).setCell ⟨b2, 1, none⟩ (.int .i64 x2)).setCell ⟨b2, 2, none⟩ (.int .i64 x3)).setCell ⟨b2, 3, none⟩ (.int .i64 x4)).setCell ⟨b2, 4, none⟩ (.slice A5 l c5)))) := Lib.hid (by
              rw [hv.1, hv.2]
              exact ⟨A5, l, c5, rfl, gl.symm, own_lo8 (own_cell_far (own_cell_far (own_cell_far (own_cell_far (own_cell_far HO6.out (i := 0) N2.out (.int .i64 x1)) (i := 1) N2.out (.int .i64 x2)) (i := 2) N2.out (.int .i64 x3)) (i := 3) N2.out (.int .i64 x4)) (i := 4) N2.out (.slice A5 l c5)) (by have := Lz.out; have := Lw5.out; omega), (((((HB6.out.setCell (p := ⟨b2, 0, none⟩) Lb2.out (.int .i64 x1)).setCell (p := ⟨b2, 1, none⟩) Lb2.out (.int .i64 x2)).setCell (p := ⟨b2, 2, none⟩) Lb2.out (.int .i64 x3)).setCell (p := ⟨b2, 3, none⟩) Lb2.out (.int .i64 x4)).setCell (p := ⟨b2, 4, none⟩) Lb2.out (.slice A5 l c5))⟩)
            have f0 := HX6.out.free 0
            have f1 := HX6.out.free 1
            have f2 := HX6.out.free 2
            have f3 := HX6.out.free 3
            have f4 := HX6.out.free 4
            have k0 := HX6.out.cell (i := 0) rfl
            have k1 := HX6.out.cell (i := 1) rfl
            have k2 := HX6.out.cell (i := 2) rfl
            have k3 := HX6.out.cell (i := 3) rfl
            have k4 := HX6.out.cell (i := 4) rfl
            have t0 := HT6.out.cell (i := 0) rfl
            have t1 := HT6.out.cell (i := 1) rfl
            have t2 := HT6.out.cell (i := 2) rfl
            have t3 := HT6.out.cell (i := 3) rfl
            have t4 := HT6.out.cell (i := 4) rfl
            clear he hok hw gV gl hv HX5 HT5 HB5 HO5 HE5 HX6 HT6 HO6 HB6
            go_wp2
            exact ret_whole2 rfl b2 rfl rfl HY.out Try.underlying30 rfl (by kernel_rfl) rfl HP.out
end Go.Proofs.Ytinfbaflkjghhaa
/- Rows of steps, and the document's Same of them. -/
namespace Go.Proofs.Ytinfbaflkjghhaa
open Go.RowKit
/-- A step as it stands in memory. -/
structure StOk (W : World) (s : StT) : Prop where
  ops : RdS W W.heap.size 20 s.2.1 s.2.2.1 s.2.2.2.1 (rowsV opCells s.2.2.2.2)
  few : s.2.2.1 ≤ 1000000
  txt : ∀ o ∈ s.2.2.2.2, o.t.size ≤ maxLen
  hd : In4 s.1
theorem StOk.bl {W W' : World} {s : StT} (h : StOk W s) (hb : Below W.heap.size W W') : StOk W' s := ⟨h.ops.bl hb, h.few, h.txt, h.hd⟩
structure StRd (W : World) (A : Option Addr) (n c : Nat) (Ls : List StT) : Prop where
  row : RdS W W.heap.size 5 A n c (rowsV stC Ls)
  each : ∀ s ∈ Ls, StOk W s
theorem StRd.bl {W W' : World} {A : Option Addr} {n c : Nat} {Ls : List StT} (h : StRd W A n c Ls) (hb : Below W.heap.size W W') : StRd W' A n c Ls := ⟨h.row.bl hb, fun s hs => (h.each s hs).bl hb⟩
theorem map_take_snoc {α β : Type} (f : α → β) {L M : List α} {j : Nat} {x y : α} (hx : L[j]? = some x) (hy : M[j]? = some y) (h : (L.take j).map f = (M.take j).map f) (e : f x = f y) : (L.take (j + 1)).map f = (M.take (j + 1)).map f := by
  rw [List.take_add_one, List.take_add_one, hx, hy, List.map_append, List.map_append, h]
  simp [e]
theorem map_ne_at {α β : Type} (f : α → β) {L M : List α} {j : Nat} {x y : α} (hx : L[j]? = some x) (hy : M[j]? = some y) (e : ¬ f x = f y) : ¬ L.map f = M.map f := fun q => e (by
  have := congrArg (fun l => l[j]?) q
  simpa [hx, hy] using this)
set_option maxRecDepth 100000 in
set_option maxHeartbeats 4000000 in
theorem rsame23_any (A : Option Addr) (n c : Nat) (Ls : List StT) (A' : Option Addr) (n' c' : Nat) (Ms : List StT) (w : World) (h : StRd w A n c Ls) (h' : StRd w A' n' c' Ms) (hn : n ≤ 1000000) :
    Calls Try.prog 12 #[.slice A n c, .slice A' n' c'] w fun e w' => e = .returned (.bool (decide (Ls.map sdT = Ms.map sdT))) ∧ Below w.heap.size w w' := by
  have H := Lib.hid h
  have H' := Lib.hid h'
  have Hl := Lib.hid (h.row.rlen stC_len (by decide))
  have Hl' := Lib.hid (h'.row.rlen stC_len (by decide))
  have HB0 : RowKit.Hid (Below w.heap.size w w) := Lib.hid (Below.refl _ _)
  clear h h'
  by_cases hnn : n = n'
  · subst hnn
    obtain ⟨R, gR⟩ : ∃ z, decide (Ls.map sdT = Ms.map sdT) = z := ⟨_, rfl⟩
    have Hdec := Lib.hid gR
    rw [gR]
    clear gR
    go_enter Try.func12, Try.ntmps12
    go_wp2
    go_loopw [5] (fun si wr => ∃ j : Nat, j ≤ n ∧ si = .int .i64 j ∧ RowKit.Hid (Below w.heap.size w wr) ∧ RowKit.Hid ((Ls.take j).map sdT = (Ms.take j).map sdT)) (fun si _ => n - (intOf si).toNat)
    case atStart => exact ⟨0, by omega, rfl, HB0, Lib.hid rfl⟩
    case round =>
      clear HB0
      obtain ⟨j, hj, rfl, HB, HP⟩ := hrel
      obtain ⟨wo, gwo⟩ : ∃ z, wr = z := ⟨_, rfl⟩
      rw [gwo] at HB ⊢
      clear gwo
      by_cases hjn : j < n
      · obtain ⟨x, hx⟩ : ∃ x, Ls[j]? = some x := ⟨_, List.getElem?_eq_getElem (by have := Hl.out; omega)⟩
        obtain ⟨y, hy⟩ : ∃ y, Ms[j]? = some y := ⟨_, List.getElem?_eq_getElem (by have := Hl'.out; omega)⟩
        have hox := (H.out.each x (List.mem_of_getElem? hx)).bl HB.out
        have hoy := (H'.out.each y (List.mem_of_getElem? hy)).bl HB.out
        obtain ⟨bb, off, rfl, hbB, hpl⟩ := (H.out.row.bl HB.out).place stC_len (by decide) (by omega)
        obtain ⟨bb2, off2, rfl, hbB2, hpl2⟩ := (H'.out.row.bl HB.out).place stC_len (by decide) (by omega)
        obtain ⟨⟨k1, k2, k3, k4⟩, Ax, nx, cx, La⟩ := x
        obtain ⟨⟨l1, l2, l3, l4⟩, Ay, ny, cy, Lb⟩ := y
        have a0 := hpl j _ hx 0 _ rfl
        have a1 := hpl j _ hx 1 _ rfl
        have a2 := hpl j _ hx 2 _ rfl
        have a3 := hpl j _ hx 3 _ rfl
        have a4 := hpl j _ hx 4 _ rfl
        have b0 := hpl2 j _ hy 0 _ rfl
        have b1 := hpl2 j _ hy 1 _ rfl
        have b2 := hpl2 j _ hy 2 _ rfl
        have b3 := hpl2 j _ hy 3 _ rfl
        have b4 := hpl2 j _ hy 4 _ rfl
        simp only [Addr.add_lit, Nat.add_zero] at a0 a1 a2 a3 a4 b0 b1 b2 b3 b4
        have HSm : RowKit.Hid (∀ w', Ext wo.drew w' → Calls Try.prog 24 #[.agg #[.slice Ax nx cx], .agg #[.slice Ay ny cy]] w' fun e w'' => e = .returned (.bool (decide (La = Lb))) ∧ Below w'.heap.size w' w'') := Lib.hid (fun w' hw' => rsame_any Ax Ay nx ny cx cy La Lb w' ((hox.ops.bl (bel_dr (Below.refl wo.heap.size wo))).bl hw') ((hoy.ops.bl (bel_dr (Below.refl wo.heap.size wo))).bl hw') (by have h9 : nx ≤ 1000000 := hox.few; unfold maxLen; omega))
        have HX := Lib.hid hx
        have HY := Lib.hid hy
        have hltI : (j : Int) < (n : Int) := by omega
        clear hx hy hpl hpl2 hox hoy
        go_upto_region 6 with fail
        have ld0 : ∀ w', Kept Nil_ wo.drew w' → w'.cell? ⟨bb, off + j * 5 + 4, none⟩ = some (.slice Ax nx cx) := fun w' h => h.nil_cell a4
        have ld1 : ∀ w', Kept Nil_ wo.drew w' → w'.cell? ⟨bb2, off2 + j * 5 + 4, none⟩ = some (.slice Ay ny cy) := fun w' h => h.nil_cell b4
        obtain ⟨eo', geo⟩ : ∃ z, decide (La = Lb) = z := ⟨_, rfl⟩
        rw [geo] at HSm
        have Geo := Lib.hid geo
        clear geo
        refine wp_region_reg (Nil_) (by kernel_rfl) ?_
        refine opR_ 0 18 (v := ?_) ?_ ?_; rotate_left
        · intro w' hw'; go_simp; (try with_reducible rfl)
        simp only [st0_, st1_]
        refine opR_ 1 19 (v := ?_) ?_ ?_; rotate_left
        · intro w' hw'; go_simp; (try with_reducible rfl)
        simp only [st0_, st1_]
        refine opR_ 2 20 (v := ?_) ?_ ?_; rotate_left
        · intro w' hw'; go_simp; (try with_reducible rfl)
        simp only [st0_, st1_]
        refine opR_ 3 21 (v := ?_) ?_ ?_; rotate_left
        · intro w' hw'; go_simp; (try with_reducible rfl)
        simp only [st0_, st1_]
        refine opR_ 4 22 (v := ?_) ?_ ?_; rotate_left
        · intro w' hw'; go_simp; (try with_reducible rfl)
        simp only [st0_, st1_]
        refine opR_ 5 23 (v := ?_) ?_ ?_; rotate_left
        · intro w' hw'; go_simp; (try with_reducible rfl)
        simp only [st0_, st1_]
        refine opR_ 6 24 (v := ?_) ?_ ?_; rotate_left
        · intro w' hw'; go_simp; (try with_reducible rfl)
        simp only [st0_, st1_]
        refine opR_ 7 25 (v := ?_) ?_ ?_; rotate_left
        · intro w' hw'; go_simp; (try with_reducible rfl)
        simp only [st0_, st1_]
        refine opR_ 8 26 (v := ?_) ?_ ?_; rotate_left
        · intro w' hw'; go_simp; (try with_reducible rfl)
        simp only [st0_, st1_]
        refine opR_ 9 27 (v := ?_) ?_ ?_; rotate_left
        · intro w' hw'; go_simp; (try with_reducible rfl)
        simp only [st0_, st1_]
        refine opX_ 10 28 ?_
        apply Exists.intro
        apply And.intro
        · apply yr_call; rfl; rotate_left; intro w' hw'; exact HSm.out w' (hw'.ext_nil); intro w'; go_simp
        simp only [st0_, st1_]
        refine opR_ 11 6 (v := ?_) ?_ ?_; rotate_left
        · intro w' hw'; go_simp; (try with_reducible rfl)
        simp only [st0_, st1_]
        refine wpR_done (by kernel_rfl) ?_ _
        intro W3 hw3
        have hw4 := bel_bl (bel_dr (Below.refl wo.heap.size wo)) hw3
        have HB3 := Lib.hid (bel_bl HB.out hw4)
        have HbB := Lib.hid (show bb < wo.heap.size from hbB)
        have HbB2 := Lib.hid (show bb2 < wo.heap.size from hbB2)
        replace a0 := (hw4.cell (p := ⟨bb, off + j * 5, none⟩) HbB.out).trans a0
        replace a1 := (hw4.cell (p := ⟨bb, off + j * 5 + 1, none⟩) HbB.out).trans a1
        replace a2 := (hw4.cell (p := ⟨bb, off + j * 5 + 2, none⟩) HbB.out).trans a2
        replace a3 := (hw4.cell (p := ⟨bb, off + j * 5 + 3, none⟩) HbB.out).trans a3
        replace b0 := (hw4.cell (p := ⟨bb2, off2 + j * 5, none⟩) HbB2.out).trans b0
        replace b1 := (hw4.cell (p := ⟨bb2, off2 + j * 5 + 1, none⟩) HbB2.out).trans b1
        replace b2 := (hw4.cell (p := ⟨bb2, off2 + j * 5 + 2, none⟩) HbB2.out).trans b2
        replace b3 := (hw4.cell (p := ⟨bb2, off2 + j * 5 + 3, none⟩) HbB2.out).trans b3
        clear hw3 hw4 HB a4 b4 ld0 ld1 HSm hbB hbB2 HbB HbB2
        obtain ⟨wq, gwq⟩ : ∃ z, W3 = z := ⟨_, rfl⟩
        rw [gwq] at HB3 a0 a1 a2 a3 b0 b1 b2 b3 ⊢
        clear gwq
        go_upto_region 7 with fail
        have la0 : ∀ w', Kept Nil_ wq.drew w' → w'.cell? ⟨bb, off + j * 5, none⟩ = some (.int .i64 k1) := fun w' h => h.nil_cell (a0)
        have la1 : ∀ w', Kept Nil_ wq.drew w' → w'.cell? ⟨bb, off + j * 5 + 1, none⟩ = some (.int .i64 k2) := fun w' h => h.nil_cell (a1)
        have la2 : ∀ w', Kept Nil_ wq.drew w' → w'.cell? ⟨bb, off + j * 5 + 2, none⟩ = some (.int .i64 k3) := fun w' h => h.nil_cell (a2)
        have la3 : ∀ w', Kept Nil_ wq.drew w' → w'.cell? ⟨bb, off + j * 5 + 3, none⟩ = some (.int .i64 k4) := fun w' h => h.nil_cell (a3)
        have lb0 : ∀ w', Kept Nil_ wq.drew w' → w'.cell? ⟨bb2, off2 + j * 5, none⟩ = some (.int .i64 l1) := fun w' h => h.nil_cell (b0)
        have lb1 : ∀ w', Kept Nil_ wq.drew w' → w'.cell? ⟨bb2, off2 + j * 5 + 1, none⟩ = some (.int .i64 l2) := fun w' h => h.nil_cell (b1)
        have lb2 : ∀ w', Kept Nil_ wq.drew w' → w'.cell? ⟨bb2, off2 + j * 5 + 2, none⟩ = some (.int .i64 l3) := fun w' h => h.nil_cell (b2)
        have lb3 : ∀ w', Kept Nil_ wq.drew w' → w'.cell? ⟨bb2, off2 + j * 5 + 3, none⟩ = some (.int .i64 l4) := fun w' h => h.nil_cell (b3)
        clear a0 a1 a2 a3 b0 b1 b2 b3
        by_cases e0 : k1 = l1
        · by_cases e1 : k2 = l2
          · by_cases e2 : k3 = l3
            · by_cases e3 : k4 = l4
              · by_cases eo : La = Lb
                · obtain rfl : true = eo' := (decide_eq_true eo).symm.trans Geo.out
                  have q0 : ((k1 : Int) != l1) = false := by rw [e0]; exact bne_self_eq_false _
                  have q1 : ((k2 : Int) != l2) = false := by rw [e1]; exact bne_self_eq_false _
                  have q2 : ((k3 : Int) != l3) = false := by rw [e2]; exact bne_self_eq_false _
                  have q3 : ((k4 : Int) != l4) = false := by rw [e3]; exact bne_self_eq_false _
                  have HP2 : RowKit.Hid ((Ls.take (j + 1)).map sdT = (Ms.take (j + 1)).map sdT) := Lib.hid (map_take_snoc sdT HX.out HY.out HP.out (by show ((k1, k2, k3, k4), La) = ((l1, l2, l3, l4), Lb); rw [e0, e1, e2, e3, eo]))
                  clear e0 e1 e2 e3 eo
                  refine wp_region_reg (Nil_) (by kernel_rfl) ?_
                  refine opR_ 0 29 (v := ?_) ?_ ?_; rotate_left
                  · intro w' hw'; go_simp; (try with_reducible rfl)
                  simp only [st0_, st1_]
                  refine opR_ 1 30 (v := ?_) ?_ ?_; rotate_left
                  · intro w' hw'; go_simp; (try with_reducible rfl)
                  simp only [st0_, st1_]
                  refine opR_ 2 31 (v := ?_) ?_ ?_; rotate_left
                  · intro w' hw'; go_simp; (try with_reducible rfl)
                  simp only [st0_, st1_]
                  refine opR_ 3 32 (v := ?_) ?_ ?_; rotate_left
                  · intro w' hw'; go_simp; (try with_reducible rfl)
                  simp only [st0_, st1_]
                  refine opR_ 4 33 (v := ?_) ?_ ?_; rotate_left
                  · intro w' hw'; go_simp; (try with_reducible rfl)
                  simp only [st0_, st1_]
                  refine opR_ 5 34 (v := ?_) ?_ ?_; rotate_left
                  · intro w' hw'; go_simp; (try with_reducible rfl)
                  simp only [st0_, st1_]
                  refine opR_ 6 35 (v := ?_) ?_ ?_; rotate_left
                  · intro w' hw'; go_simp; (try with_reducible rfl)
                  simp only [st0_, st1_]
                  refine opR_ 7 36 (v := ?_) ?_ ?_; rotate_left
                  · intro w' hw'; go_simp; (try with_reducible rfl)
                  simp only [st0_, st1_]
                  refine opR_ 8 37 (v := ?_) ?_ ?_; rotate_left
                  · intro w' hw'; go_simp; (try with_reducible rfl)
                  simp only [st0_, st1_]
                  refine opR_ 9 38 (v := ?_) ?_ ?_; rotate_left
                  · intro w' hw'; go_simp; (try with_reducible rfl)
                  simp only [st0_, st1_]
                  refine opR_ 10 39 (v := ?_) ?_ ?_; rotate_left
                  · intro w' hw'; go_simp; (try with_reducible rfl)
                  simp only [st0_, st1_]
                  refine opR_ 11 40 (v := ?_) ?_ ?_; rotate_left
                  · intro w' hw'; go_simp; (try with_reducible rfl)
                  simp only [st0_, st1_]
                  refine opR_ 12 41 (v := ?_) ?_ ?_; rotate_left
                  · intro w' hw'; go_simp; (try with_reducible rfl)
                  simp only [st0_, st1_]
                  refine opR_ 13 42 (v := ?_) ?_ ?_; rotate_left
                  · intro w' hw'; go_simp; (try with_reducible rfl)
                  simp only [st0_, st1_]
                  refine opR_ 14 43 (v := ?_) ?_ ?_; rotate_left
                  · intro w' hw'; go_simp; (try with_reducible rfl)
                  simp only [st0_, st1_]
                  refine opR_ 15 44 (v := ?_) ?_ ?_; rotate_left
                  · intro w' hw'; go_simp; (try with_reducible rfl)
                  simp only [st0_, st1_]
                  refine opR_ 16 45 (v := ?_) ?_ ?_; rotate_left
                  · intro w' hw'; go_simp; (try with_reducible rfl)
                  simp only [st0_, st1_]
                  refine opR_ 17 46 (v := ?_) ?_ ?_; rotate_left
                  · intro w' hw'; go_simp; (try with_reducible rfl)
                  simp only [st0_, st1_]
                  refine opR_ 18 47 (v := ?_) ?_ ?_; rotate_left
                  · intro w' hw'; go_simp; (try with_reducible rfl)
                  simp only [st0_, st1_]
                  refine opR_ 19 48 (v := ?_) ?_ ?_; rotate_left
                  · intro w' hw'; go_simp; (try with_reducible rfl)
                  simp only [st0_, st1_]
                  refine opR_ 20 49 (v := ?_) ?_ ?_; rotate_left
                  · intro w' hw'; go_simp; (try with_reducible rfl)
                  simp only [st0_, st1_]
                  refine opR_ 21 50 (v := ?_) ?_ ?_; rotate_left
                  · intro w' hw'; go_simp; (try with_reducible rfl)
                  simp only [st0_, st1_]
                  refine opR_ 22 51 (v := ?_) ?_ ?_; rotate_left
                  · intro w' hw'; go_simp; (try with_reducible rfl)
                  simp only [st0_, st1_]
                  refine opR_ 23 52 (v := ?_) ?_ ?_; rotate_left
                  · intro w' hw'; go_simp; (try with_reducible rfl)
                  simp only [st0_, st1_]
                  refine opR_ 24 53 (v := ?_) ?_ ?_; rotate_left
                  · intro w' hw'; go_simp; (try with_reducible rfl)
                  simp only [st0_, st1_]
                  refine opR_ 25 54 (v := ?_) ?_ ?_; rotate_left
                  · intro w' hw'; go_simp; (try with_reducible rfl)
                  simp only [st0_, st1_]
                  refine opR_ 26 55 (v := ?_) ?_ ?_; rotate_left
                  · intro w' hw'; go_simp; (try with_reducible rfl)
                  simp only [st0_, st1_]
                  refine opR_ 27 56 (v := ?_) ?_ ?_; rotate_left
                  · intro w' hw'; go_simp; (try with_reducible rfl)
                  simp only [st0_, st1_]
                  refine opR_ 28 57 (v := ?_) ?_ ?_; rotate_left
                  · intro w' hw'; go_simp; (try with_reducible rfl)
                  simp only [st0_, st1_]
                  refine opR_ 29 58 (v := ?_) ?_ ?_; rotate_left
                  · intro w' hw'; go_simp; (try with_reducible rfl)
                  simp only [st0_, st1_]
                  refine opR_ 30 59 (v := ?_) ?_ ?_; rotate_left
                  · intro w' hw'; go_simp; (try with_reducible rfl)
                  simp only [st0_, st1_]
                  refine opR_ 31 60 (v := ?_) ?_ ?_; rotate_left
                  · intro w' hw'; go_simp; (try with_reducible rfl)
                  simp only [st0_, st1_]
                  refine opR_ 32 61 (v := ?_) ?_ ?_; rotate_left
                  · intro w' hw'; go_simp; (try with_reducible rfl)
                  simp only [st0_, st1_]
                  refine opR_ 33 62 (v := ?_) ?_ ?_; rotate_left
                  · intro w' hw'; go_simp; (try with_reducible rfl)
                  simp only [st0_, st1_]
                  refine opR_ 34 63 (v := ?_) ?_ ?_; rotate_left
                  · intro w' hw'; go_simp; (try with_reducible rfl)
                  simp only [st0_, st1_]
                  refine opR_ 35 64 (v := ?_) ?_ ?_; rotate_left
                  · intro w' hw'; go_simp; (try with_reducible rfl)
                  simp only [st0_, st1_]
                  refine opR_ 36 65 (v := ?_) ?_ ?_; rotate_left
                  · intro w' hw'; go_simp; (try with_reducible rfl)
                  simp only [st0_, st1_]
                  refine opR_ 37 66 (v := ?_) ?_ ?_; rotate_left
                  · intro w' hw'; go_simp; (try with_reducible rfl)
                  simp only [st0_, st1_]
                  refine opR_ 38 67 (v := ?_) ?_ ?_; rotate_left
                  · intro w' hw'; go_simp; (try with_reducible rfl)
                  simp only [st0_, st1_]
                  refine opR_ 39 68 (v := ?_) ?_ ?_; rotate_left
                  · intro w' hw'; go_simp; (try with_reducible rfl)
                  simp only [st0_, st1_]
                  refine opR_ 40 69 (v := ?_) ?_ ?_; rotate_left
                  · intro w' hw'; go_simp; (try with_reducible rfl)
                  simp only [st0_, st1_]
                  refine opR_ 41 70 (v := ?_) ?_ ?_; rotate_left
                  · intro w' hw'; go_simp; (try with_reducible rfl)
                  simp only [st0_, st1_]
                  refine opR_ 42 71 (v := ?_) ?_ ?_; rotate_left
                  · intro w' hw'; go_simp; (try with_reducible rfl)
                  simp only [st0_, st1_]
                  refine opR_ 43 72 (v := ?_) ?_ ?_; rotate_left
                  · intro w' hw'; go_simp; (try with_reducible rfl)
                  simp only [st0_, st1_]
                  refine opR_ 44 73 (v := ?_) ?_ ?_; rotate_left
                  · intro w' hw'; go_simp; (try with_reducible rfl)
                  simp only [st0_, st1_]
                  refine opR_ 45 74 (v := ?_) ?_ ?_; rotate_left
                  · intro w' hw'; go_simp; (try with_reducible rfl)
                  simp only [st0_, st1_]
                  refine opR_ 46 75 (v := ?_) ?_ ?_; rotate_left
                  · intro w' hw'; go_simp; (try with_reducible rfl)
                  simp only [st0_, st1_]
                  refine opR_ 47 76 (v := ?_) ?_ ?_; rotate_left
                  · intro w' hw'; go_simp; (try with_reducible rfl)
                  simp only [st0_, st1_]
                  refine opR_ 48 77 (v := ?_) ?_ ?_; rotate_left
                  · intro w' hw'; go_simp; (try with_reducible rfl)
                  simp only [st0_, st1_]
                  refine opR_ 49 78 (v := ?_) ?_ ?_; rotate_left
                  · intro w' hw'; go_simp; (try with_reducible rfl)
                  simp only [st0_, st1_]
                  refine opR_ 50 79 (v := ?_) ?_ ?_; rotate_left
                  · intro w' hw'; go_simp; (try with_reducible rfl)
                  simp only [st0_, st1_]
                  refine opR_ 51 80 (v := ?_) ?_ ?_; rotate_left
                  · intro w' hw'; go_simp; (try with_reducible rfl)
                  simp only [st0_, st1_]
                  refine opR_ 52 81 (v := ?_) ?_ ?_; rotate_left
                  · intro w' hw'; go_simp; (try with_reducible rfl)
                  simp only [st0_, st1_]
                  refine opR_ 53 82 (v := ?_) ?_ ?_; rotate_left
                  · intro w' hw'; go_simp; (try with_reducible rfl)
                  simp only [st0_, st1_]
                  refine wpR_done (by kernel_rfl) ?_ _
                  intro W9 hw9
                  have HBz := Lib.hid (bel_bl HB3.out (bel_bl (bel_dr (Below.refl wq.heap.size wq)) hw9))
                  clear hw9 q0 q1 q2 q3 la0 la1 la2 la3 lb0 lb1 lb2 lb3 HB3
                  go_wp2
                  go_roundw
                  case rel => exact ⟨j + 1, by omega, by go_num, HBz, HP2⟩
                  case measure => simp [intOf]; omega
                · obtain rfl : false = eo' := (decide_eq_false eo).symm.trans Geo.out
                  have q0 : ((k1 : Int) != l1) = false := by rw [e0]; exact bne_self_eq_false _
                  have q1 : ((k2 : Int) != l2) = false := by rw [e1]; exact bne_self_eq_false _
                  have q2 : ((k3 : Int) != l3) = false := by rw [e2]; exact bne_self_eq_false _
                  have q3 : ((k4 : Int) != l4) = false := by rw [e3]; exact bne_self_eq_false _
                  have Hno : RowKit.Hid (R = false) := Lib.hid (Hdec.out.symm.trans (decide_eq_false (map_ne_at sdT HX.out HY.out (fun q => eo (by have := congrArg (fun z : SD => z.2) q; exact this)))))
                  clear e0 e1 e2 e3 eo
                  refine wp_region_reg (Nil_) (by kernel_rfl) ?_
                  refine opR_ 0 29 (v := ?_) ?_ ?_; rotate_left
                  · intro w' hw'; go_simp; (try with_reducible rfl)
                  simp only [st0_, st1_]
                  refine opR_ 1 30 (v := ?_) ?_ ?_; rotate_left
                  · intro w' hw'; go_simp; (try with_reducible rfl)
                  simp only [st0_, st1_]
                  refine opR_ 2 31 (v := ?_) ?_ ?_; rotate_left
                  · intro w' hw'; go_simp; (try with_reducible rfl)
                  simp only [st0_, st1_]
                  refine opR_ 3 32 (v := ?_) ?_ ?_; rotate_left
                  · intro w' hw'; go_simp; (try with_reducible rfl)
                  simp only [st0_, st1_]
                  refine opR_ 4 33 (v := ?_) ?_ ?_; rotate_left
                  · intro w' hw'; go_simp; (try with_reducible rfl)
                  simp only [st0_, st1_]
                  refine opR_ 5 34 (v := ?_) ?_ ?_; rotate_left
                  · intro w' hw'; go_simp; (try with_reducible rfl)
                  simp only [st0_, st1_]
                  refine opR_ 6 35 (v := ?_) ?_ ?_; rotate_left
                  · intro w' hw'; go_simp; (try with_reducible rfl)
                  simp only [st0_, st1_]
                  refine opR_ 7 36 (v := ?_) ?_ ?_; rotate_left
                  · intro w' hw'; go_simp; (try with_reducible rfl)
                  simp only [st0_, st1_]
                  refine opR_ 8 37 (v := ?_) ?_ ?_; rotate_left
                  · intro w' hw'; go_simp; (try with_reducible rfl)
                  simp only [st0_, st1_]
                  refine opR_ 9 38 (v := ?_) ?_ ?_; rotate_left
                  · intro w' hw'; go_simp; (try with_reducible rfl)
                  simp only [st0_, st1_]
                  refine opR_ 10 39 (v := ?_) ?_ ?_; rotate_left
                  · intro w' hw'; go_simp; (try with_reducible rfl)
                  simp only [st0_, st1_]
                  refine opR_ 11 40 (v := ?_) ?_ ?_; rotate_left
                  · intro w' hw'; go_simp; (try with_reducible rfl)
                  simp only [st0_, st1_]
                  refine opR_ 12 41 (v := ?_) ?_ ?_; rotate_left
                  · intro w' hw'; go_simp; (try with_reducible rfl)
                  simp only [st0_, st1_]
                  refine opR_ 13 42 (v := ?_) ?_ ?_; rotate_left
                  · intro w' hw'; go_simp; (try with_reducible rfl)
                  simp only [st0_, st1_]
                  refine opR_ 14 43 (v := ?_) ?_ ?_; rotate_left
                  · intro w' hw'; go_simp; (try with_reducible rfl)
                  simp only [st0_, st1_]
                  refine opR_ 15 44 (v := ?_) ?_ ?_; rotate_left
                  · intro w' hw'; go_simp; (try with_reducible rfl)
                  simp only [st0_, st1_]
                  refine opR_ 16 45 (v := ?_) ?_ ?_; rotate_left
                  · intro w' hw'; go_simp; (try with_reducible rfl)
                  simp only [st0_, st1_]
                  refine opR_ 17 46 (v := ?_) ?_ ?_; rotate_left
                  · intro w' hw'; go_simp; (try with_reducible rfl)
                  simp only [st0_, st1_]
                  refine opR_ 18 47 (v := ?_) ?_ ?_; rotate_left
                  · intro w' hw'; go_simp; (try with_reducible rfl)
                  simp only [st0_, st1_]
                  refine opR_ 19 48 (v := ?_) ?_ ?_; rotate_left
                  · intro w' hw'; go_simp; (try with_reducible rfl)
                  simp only [st0_, st1_]
                  refine opR_ 20 49 (v := ?_) ?_ ?_; rotate_left
                  · intro w' hw'; go_simp; (try with_reducible rfl)
                  simp only [st0_, st1_]
                  refine opR_ 21 50 (v := ?_) ?_ ?_; rotate_left
                  · intro w' hw'; go_simp; (try with_reducible rfl)
                  simp only [st0_, st1_]
                  refine opR_ 22 51 (v := ?_) ?_ ?_; rotate_left
                  · intro w' hw'; go_simp; (try with_reducible rfl)
                  simp only [st0_, st1_]
                  refine opR_ 23 52 (v := ?_) ?_ ?_; rotate_left
                  · intro w' hw'; go_simp; (try with_reducible rfl)
                  simp only [st0_, st1_]
                  refine opR_ 24 53 (v := ?_) ?_ ?_; rotate_left
                  · intro w' hw'; go_simp; (try with_reducible rfl)
                  simp only [st0_, st1_]
                  refine opR_ 25 54 (v := ?_) ?_ ?_; rotate_left
                  · intro w' hw'; go_simp; (try with_reducible rfl)
                  simp only [st0_, st1_]
                  refine opR_ 26 55 (v := ?_) ?_ ?_; rotate_left
                  · intro w' hw'; go_simp; (try with_reducible rfl)
                  simp only [st0_, st1_]
                  refine opR_ 27 56 (v := ?_) ?_ ?_; rotate_left
                  · intro w' hw'; go_simp; (try with_reducible rfl)
                  simp only [st0_, st1_]
                  refine opR_ 28 57 (v := ?_) ?_ ?_; rotate_left
                  · intro w' hw'; go_simp; (try with_reducible rfl)
                  simp only [st0_, st1_]
                  refine opR_ 29 58 (v := ?_) ?_ ?_; rotate_left
                  · intro w' hw'; go_simp; (try with_reducible rfl)
                  simp only [st0_, st1_]
                  refine opR_ 30 59 (v := ?_) ?_ ?_; rotate_left
                  · intro w' hw'; go_simp; (try with_reducible rfl)
                  simp only [st0_, st1_]
                  refine opR_ 31 60 (v := ?_) ?_ ?_; rotate_left
                  · intro w' hw'; go_simp; (try with_reducible rfl)
                  simp only [st0_, st1_]
                  refine opR_ 32 61 (v := ?_) ?_ ?_; rotate_left
                  · intro w' hw'; go_simp; (try with_reducible rfl)
                  simp only [st0_, st1_]
                  refine opR_ 33 62 (v := ?_) ?_ ?_; rotate_left
                  · intro w' hw'; go_simp; (try with_reducible rfl)
                  simp only [st0_, st1_]
                  refine opR_ 34 63 (v := ?_) ?_ ?_; rotate_left
                  · intro w' hw'; go_simp; (try with_reducible rfl)
                  simp only [st0_, st1_]
                  refine opR_ 35 64 (v := ?_) ?_ ?_; rotate_left
                  · intro w' hw'; go_simp; (try with_reducible rfl)
                  simp only [st0_, st1_]
                  refine opR_ 36 65 (v := ?_) ?_ ?_; rotate_left
                  · intro w' hw'; go_simp; (try with_reducible rfl)
                  simp only [st0_, st1_]
                  refine opR_ 37 66 (v := ?_) ?_ ?_; rotate_left
                  · intro w' hw'; go_simp; (try with_reducible rfl)
                  simp only [st0_, st1_]
                  refine opR_ 38 67 (v := ?_) ?_ ?_; rotate_left
                  · intro w' hw'; go_simp; (try with_reducible rfl)
                  simp only [st0_, st1_]
                  refine opR_ 39 68 (v := ?_) ?_ ?_; rotate_left
                  · intro w' hw'; go_simp; (try with_reducible rfl)
                  simp only [st0_, st1_]
                  refine opR_ 40 69 (v := ?_) ?_ ?_; rotate_left
                  · intro w' hw'; go_simp; (try with_reducible rfl)
                  simp only [st0_, st1_]
                  refine opR_ 41 70 (v := ?_) ?_ ?_; rotate_left
                  · intro w' hw'; go_simp; (try with_reducible rfl)
                  simp only [st0_, st1_]
                  refine opR_ 42 71 (v := ?_) ?_ ?_; rotate_left
                  · intro w' hw'; go_simp; (try with_reducible rfl)
                  simp only [st0_, st1_]
                  refine opR_ 43 72 (v := ?_) ?_ ?_; rotate_left
                  · intro w' hw'; go_simp; (try with_reducible rfl)
                  simp only [st0_, st1_]
                  refine opR_ 44 73 (v := ?_) ?_ ?_; rotate_left
                  · intro w' hw'; go_simp; (try with_reducible rfl)
                  simp only [st0_, st1_]
                  refine opR_ 45 74 (v := ?_) ?_ ?_; rotate_left
                  · intro w' hw'; go_simp; (try with_reducible rfl)
                  simp only [st0_, st1_]
                  refine opR_ 46 75 (v := ?_) ?_ ?_; rotate_left
                  · intro w' hw'; go_simp; (try with_reducible rfl)
                  simp only [st0_, st1_]
                  refine opR_ 47 76 (v := ?_) ?_ ?_; rotate_left
                  · intro w' hw'; go_simp; (try with_reducible rfl)
                  simp only [st0_, st1_]
                  refine opR_ 48 77 (v := ?_) ?_ ?_; rotate_left
                  · intro w' hw'; go_simp; (try with_reducible rfl)
                  simp only [st0_, st1_]
                  refine opR_ 49 78 (v := ?_) ?_ ?_; rotate_left
                  · intro w' hw'; go_simp; (try with_reducible rfl)
                  simp only [st0_, st1_]
                  refine opR_ 50 79 (v := ?_) ?_ ?_; rotate_left
                  · intro w' hw'; go_simp; (try with_reducible rfl)
                  simp only [st0_, st1_]
                  refine opR_ 51 80 (v := ?_) ?_ ?_; rotate_left
                  · intro w' hw'; go_simp; (try with_reducible rfl)
                  simp only [st0_, st1_]
                  refine opR_ 52 81 (v := ?_) ?_ ?_; rotate_left
                  · intro w' hw'; go_simp; (try with_reducible rfl)
                  simp only [st0_, st1_]
                  refine opR_ 53 82 (v := ?_) ?_ ?_; rotate_left
                  · intro w' hw'; go_simp; (try with_reducible rfl)
                  simp only [st0_, st1_]
                  refine wpR_done (by kernel_rfl) ?_ _
                  intro W9 hw9
                  have HBz := Lib.hid (bel_bl HB3.out (bel_bl (bel_dr (Below.refl wq.heap.size wq)) hw9))
                  clear hw9 q0 q1 q2 q3 la0 la1 la2 la3 lb0 lb1 lb2 lb3 HB3
                  go_wp2
                  go_ret
                  exact ⟨by rw [Hno.out]; rfl, HBz.out⟩
              · clear Geo
                have q0 : ((k1 : Int) != l1) = false := by rw [e0]; exact bne_self_eq_false _
                have q1 : ((k2 : Int) != l2) = false := by rw [e1]; exact bne_self_eq_false _
                have q2 : ((k3 : Int) != l3) = false := by rw [e2]; exact bne_self_eq_false _
                have q3 : ((k4 : Int) != l4) = true := bne_iff_ne.2 e3
                have Hno : RowKit.Hid (R = false) := Lib.hid (Hdec.out.symm.trans (decide_eq_false (map_ne_at sdT HX.out HY.out (fun q => e3 (by have := congrArg (fun z : SD => z.1.2.2.2) q; exact this)))))
                clear e0 e1 e2 e3
                refine wp_region_reg (Nil_) (by kernel_rfl) ?_
                refine opR_ 0 29 (v := ?_) ?_ ?_; rotate_left
                · intro w' hw'; go_simp; (try with_reducible rfl)
                simp only [st0_, st1_]
                refine opR_ 1 30 (v := ?_) ?_ ?_; rotate_left
                · intro w' hw'; go_simp; (try with_reducible rfl)
                simp only [st0_, st1_]
                refine opR_ 2 31 (v := ?_) ?_ ?_; rotate_left
                · intro w' hw'; go_simp; (try with_reducible rfl)
                simp only [st0_, st1_]
                refine opR_ 3 32 (v := ?_) ?_ ?_; rotate_left
                · intro w' hw'; go_simp; (try with_reducible rfl)
                simp only [st0_, st1_]
                refine opR_ 4 33 (v := ?_) ?_ ?_; rotate_left
                · intro w' hw'; go_simp; (try with_reducible rfl)
                simp only [st0_, st1_]
                refine opR_ 5 34 (v := ?_) ?_ ?_; rotate_left
                · intro w' hw'; go_simp; (try with_reducible rfl)
                simp only [st0_, st1_]
                refine opR_ 6 35 (v := ?_) ?_ ?_; rotate_left
                · intro w' hw'; go_simp; (try with_reducible rfl)
                simp only [st0_, st1_]
                refine opR_ 7 36 (v := ?_) ?_ ?_; rotate_left
                · intro w' hw'; go_simp; (try with_reducible rfl)
                simp only [st0_, st1_]
                refine opR_ 8 37 (v := ?_) ?_ ?_; rotate_left
                · intro w' hw'; go_simp; (try with_reducible rfl)
                simp only [st0_, st1_]
                refine opR_ 9 38 (v := ?_) ?_ ?_; rotate_left
                · intro w' hw'; go_simp; (try with_reducible rfl)
                simp only [st0_, st1_]
                refine opR_ 10 39 (v := ?_) ?_ ?_; rotate_left
                · intro w' hw'; go_simp; (try with_reducible rfl)
                simp only [st0_, st1_]
                refine opR_ 11 40 (v := ?_) ?_ ?_; rotate_left
                · intro w' hw'; go_simp; (try with_reducible rfl)
                simp only [st0_, st1_]
                refine opR_ 12 41 (v := ?_) ?_ ?_; rotate_left
                · intro w' hw'; go_simp; (try with_reducible rfl)
                simp only [st0_, st1_]
                refine opR_ 13 42 (v := ?_) ?_ ?_; rotate_left
                · intro w' hw'; go_simp; (try with_reducible rfl)
                simp only [st0_, st1_]
                refine opR_ 14 43 (v := ?_) ?_ ?_; rotate_left
                · intro w' hw'; go_simp; (try with_reducible rfl)
                simp only [st0_, st1_]
                refine opR_ 15 44 (v := ?_) ?_ ?_; rotate_left
                · intro w' hw'; go_simp; (try with_reducible rfl)
                simp only [st0_, st1_]
                refine opR_ 16 45 (v := ?_) ?_ ?_; rotate_left
                · intro w' hw'; go_simp; (try with_reducible rfl)
                simp only [st0_, st1_]
                refine opR_ 17 46 (v := ?_) ?_ ?_; rotate_left
                · intro w' hw'; go_simp; (try with_reducible rfl)
                simp only [st0_, st1_]
                refine opR_ 18 47 (v := ?_) ?_ ?_; rotate_left
                · intro w' hw'; go_simp; (try with_reducible rfl)
                simp only [st0_, st1_]
                refine opR_ 19 48 (v := ?_) ?_ ?_; rotate_left
                · intro w' hw'; go_simp; (try with_reducible rfl)
                simp only [st0_, st1_]
                refine opR_ 20 49 (v := ?_) ?_ ?_; rotate_left
                · intro w' hw'; go_simp; (try with_reducible rfl)
                simp only [st0_, st1_]
                refine opR_ 21 50 (v := ?_) ?_ ?_; rotate_left
                · intro w' hw'; go_simp; (try with_reducible rfl)
                simp only [st0_, st1_]
                refine opR_ 22 51 (v := ?_) ?_ ?_; rotate_left
                · intro w' hw'; go_simp; (try with_reducible rfl)
                simp only [st0_, st1_]
                refine opR_ 23 52 (v := ?_) ?_ ?_; rotate_left
                · intro w' hw'; go_simp; (try with_reducible rfl)
                simp only [st0_, st1_]
                refine opR_ 24 53 (v := ?_) ?_ ?_; rotate_left
                · intro w' hw'; go_simp; (try with_reducible rfl)
                simp only [st0_, st1_]
                refine opR_ 25 54 (v := ?_) ?_ ?_; rotate_left
                · intro w' hw'; go_simp; (try with_reducible rfl)
                simp only [st0_, st1_]
                refine opR_ 26 55 (v := ?_) ?_ ?_; rotate_left
                · intro w' hw'; go_simp; (try with_reducible rfl)
                simp only [st0_, st1_]
                refine opR_ 27 56 (v := ?_) ?_ ?_; rotate_left
                · intro w' hw'; go_simp; (try with_reducible rfl)
                simp only [st0_, st1_]
                refine opR_ 28 57 (v := ?_) ?_ ?_; rotate_left
                · intro w' hw'; go_simp; (try with_reducible rfl)
                simp only [st0_, st1_]
                refine opR_ 29 58 (v := ?_) ?_ ?_; rotate_left
                · intro w' hw'; go_simp; (try with_reducible rfl)
                simp only [st0_, st1_]
                refine opR_ 30 59 (v := ?_) ?_ ?_; rotate_left
                · intro w' hw'; go_simp; (try with_reducible rfl)
                simp only [st0_, st1_]
                refine opR_ 31 60 (v := ?_) ?_ ?_; rotate_left
                · intro w' hw'; go_simp; (try with_reducible rfl)
                simp only [st0_, st1_]
                refine opR_ 32 61 (v := ?_) ?_ ?_; rotate_left
                · intro w' hw'; go_simp; (try with_reducible rfl)
                simp only [st0_, st1_]
                refine opR_ 33 62 (v := ?_) ?_ ?_; rotate_left
                · intro w' hw'; go_simp; (try with_reducible rfl)
                simp only [st0_, st1_]
                refine opR_ 34 63 (v := ?_) ?_ ?_; rotate_left
                · intro w' hw'; go_simp; (try with_reducible rfl)
                simp only [st0_, st1_]
                refine opR_ 35 64 (v := ?_) ?_ ?_; rotate_left
                · intro w' hw'; go_simp; (try with_reducible rfl)
                simp only [st0_, st1_]
                refine opR_ 36 65 (v := ?_) ?_ ?_; rotate_left
                · intro w' hw'; go_simp; (try with_reducible rfl)
                simp only [st0_, st1_]
                refine opR_ 37 66 (v := ?_) ?_ ?_; rotate_left
                · intro w' hw'; go_simp; (try with_reducible rfl)
                simp only [st0_, st1_]
                refine opR_ 38 67 (v := ?_) ?_ ?_; rotate_left
                · intro w' hw'; go_simp; (try with_reducible rfl)
                simp only [st0_, st1_]
                refine opR_ 39 68 (v := ?_) ?_ ?_; rotate_left
                · intro w' hw'; go_simp; (try with_reducible rfl)
                simp only [st0_, st1_]
                refine opR_ 40 69 (v := ?_) ?_ ?_; rotate_left
                · intro w' hw'; go_simp; (try with_reducible rfl)
                simp only [st0_, st1_]
                refine opR_ 41 70 (v := ?_) ?_ ?_; rotate_left
                · intro w' hw'; go_simp; (try with_reducible rfl)
                simp only [st0_, st1_]
                refine opR_ 42 71 (v := ?_) ?_ ?_; rotate_left
                · intro w' hw'; go_simp; (try with_reducible rfl)
                simp only [st0_, st1_]
                refine opR_ 43 72 (v := ?_) ?_ ?_; rotate_left
                · intro w' hw'; go_simp; (try with_reducible rfl)
                simp only [st0_, st1_]
                refine opR_ 44 73 (v := ?_) ?_ ?_; rotate_left
                · intro w' hw'; go_simp; (try with_reducible rfl)
                simp only [st0_, st1_]
                refine opR_ 45 74 (v := ?_) ?_ ?_; rotate_left
                · intro w' hw'; go_simp; (try with_reducible rfl)
                simp only [st0_, st1_]
                refine opR_ 46 75 (v := ?_) ?_ ?_; rotate_left
                · intro w' hw'; go_simp; (try with_reducible rfl)
                simp only [st0_, st1_]
                refine opR_ 47 76 (v := ?_) ?_ ?_; rotate_left
                · intro w' hw'; go_simp; (try with_reducible rfl)
                simp only [st0_, st1_]
                refine opR_ 48 77 (v := ?_) ?_ ?_; rotate_left
                · intro w' hw'; go_simp; (try with_reducible rfl)
                simp only [st0_, st1_]
                refine opR_ 49 78 (v := ?_) ?_ ?_; rotate_left
                · intro w' hw'; go_simp; (try with_reducible rfl)
                simp only [st0_, st1_]
                refine opR_ 50 79 (v := ?_) ?_ ?_; rotate_left
                · intro w' hw'; go_simp; (try with_reducible rfl)
                simp only [st0_, st1_]
                refine opX_ 51 80 ?_
                apply Exists.intro
                apply And.intro
                · exact yr_skip (by rfl)
                simp only [st0_, st1_]
                refine opX_ 52 81 ?_
                apply Exists.intro
                apply And.intro
                · exact yr_skip (by rfl)
                simp only [st0_, st1_]
                refine opR_ 53 82 (v := ?_) ?_ ?_; rotate_left
                · intro w' hw'; go_simp; (try with_reducible rfl)
                simp only [st0_, st1_]
                refine wpR_done (by kernel_rfl) ?_ _
                intro W9 hw9
                have HBz := Lib.hid (bel_bl HB3.out (bel_bl (bel_dr (Below.refl wq.heap.size wq)) hw9))
                clear hw9 q0 q1 q2 q3 la0 la1 la2 la3 lb0 lb1 lb2 lb3 HB3
                go_wp2
                go_ret
                exact ⟨by rw [Hno.out]; rfl, HBz.out⟩
            · clear Geo
              have q0 : ((k1 : Int) != l1) = false := by rw [e0]; exact bne_self_eq_false _
              have q1 : ((k2 : Int) != l2) = false := by rw [e1]; exact bne_self_eq_false _
              have q2 : ((k3 : Int) != l3) = true := bne_iff_ne.2 e2
              have Hno : RowKit.Hid (R = false) := Lib.hid (Hdec.out.symm.trans (decide_eq_false (map_ne_at sdT HX.out HY.out (fun q => e2 (by have := congrArg (fun z : SD => z.1.2.2.1) q; exact this)))))
              clear e0 e1 e2
              refine wp_region_reg (Nil_) (by kernel_rfl) ?_
              refine opR_ 0 29 (v := ?_) ?_ ?_; rotate_left
              · intro w' hw'; go_simp; (try with_reducible rfl)
              simp only [st0_, st1_]
              refine opR_ 1 30 (v := ?_) ?_ ?_; rotate_left
              · intro w' hw'; go_simp; (try with_reducible rfl)
              simp only [st0_, st1_]
              refine opR_ 2 31 (v := ?_) ?_ ?_; rotate_left
              · intro w' hw'; go_simp; (try with_reducible rfl)
              simp only [st0_, st1_]
              refine opR_ 3 32 (v := ?_) ?_ ?_; rotate_left
              · intro w' hw'; go_simp; (try with_reducible rfl)
              simp only [st0_, st1_]
              refine opR_ 4 33 (v := ?_) ?_ ?_; rotate_left
              · intro w' hw'; go_simp; (try with_reducible rfl)
              simp only [st0_, st1_]
              refine opR_ 5 34 (v := ?_) ?_ ?_; rotate_left
              · intro w' hw'; go_simp; (try with_reducible rfl)
              simp only [st0_, st1_]
              refine opR_ 6 35 (v := ?_) ?_ ?_; rotate_left
              · intro w' hw'; go_simp; (try with_reducible rfl)
              simp only [st0_, st1_]
              refine opR_ 7 36 (v := ?_) ?_ ?_; rotate_left
              · intro w' hw'; go_simp; (try with_reducible rfl)
              simp only [st0_, st1_]
              refine opR_ 8 37 (v := ?_) ?_ ?_; rotate_left
              · intro w' hw'; go_simp; (try with_reducible rfl)
              simp only [st0_, st1_]
              refine opR_ 9 38 (v := ?_) ?_ ?_; rotate_left
              · intro w' hw'; go_simp; (try with_reducible rfl)
              simp only [st0_, st1_]
              refine opR_ 10 39 (v := ?_) ?_ ?_; rotate_left
              · intro w' hw'; go_simp; (try with_reducible rfl)
              simp only [st0_, st1_]
              refine opR_ 11 40 (v := ?_) ?_ ?_; rotate_left
              · intro w' hw'; go_simp; (try with_reducible rfl)
              simp only [st0_, st1_]
              refine opR_ 12 41 (v := ?_) ?_ ?_; rotate_left
              · intro w' hw'; go_simp; (try with_reducible rfl)
              simp only [st0_, st1_]
              refine opR_ 13 42 (v := ?_) ?_ ?_; rotate_left
              · intro w' hw'; go_simp; (try with_reducible rfl)
              simp only [st0_, st1_]
              refine opR_ 14 43 (v := ?_) ?_ ?_; rotate_left
              · intro w' hw'; go_simp; (try with_reducible rfl)
              simp only [st0_, st1_]
              refine opR_ 15 44 (v := ?_) ?_ ?_; rotate_left
              · intro w' hw'; go_simp; (try with_reducible rfl)
              simp only [st0_, st1_]
              refine opR_ 16 45 (v := ?_) ?_ ?_; rotate_left
              · intro w' hw'; go_simp; (try with_reducible rfl)
              simp only [st0_, st1_]
              refine opR_ 17 46 (v := ?_) ?_ ?_; rotate_left
              · intro w' hw'; go_simp; (try with_reducible rfl)
              simp only [st0_, st1_]
              refine opR_ 18 47 (v := ?_) ?_ ?_; rotate_left
              · intro w' hw'; go_simp; (try with_reducible rfl)
              simp only [st0_, st1_]
              refine opR_ 19 48 (v := ?_) ?_ ?_; rotate_left
              · intro w' hw'; go_simp; (try with_reducible rfl)
              simp only [st0_, st1_]
              refine opR_ 20 49 (v := ?_) ?_ ?_; rotate_left
              · intro w' hw'; go_simp; (try with_reducible rfl)
              simp only [st0_, st1_]
              refine opR_ 21 50 (v := ?_) ?_ ?_; rotate_left
              · intro w' hw'; go_simp; (try with_reducible rfl)
              simp only [st0_, st1_]
              refine opR_ 22 51 (v := ?_) ?_ ?_; rotate_left
              · intro w' hw'; go_simp; (try with_reducible rfl)
              simp only [st0_, st1_]
              refine opR_ 23 52 (v := ?_) ?_ ?_; rotate_left
              · intro w' hw'; go_simp; (try with_reducible rfl)
              simp only [st0_, st1_]
              refine opR_ 24 53 (v := ?_) ?_ ?_; rotate_left
              · intro w' hw'; go_simp; (try with_reducible rfl)
              simp only [st0_, st1_]
              refine opR_ 25 54 (v := ?_) ?_ ?_; rotate_left
              · intro w' hw'; go_simp; (try with_reducible rfl)
              simp only [st0_, st1_]
              refine opR_ 26 55 (v := ?_) ?_ ?_; rotate_left
              · intro w' hw'; go_simp; (try with_reducible rfl)
              simp only [st0_, st1_]
              refine opR_ 27 56 (v := ?_) ?_ ?_; rotate_left
              · intro w' hw'; go_simp; (try with_reducible rfl)
              simp only [st0_, st1_]
              refine opR_ 28 57 (v := ?_) ?_ ?_; rotate_left
              · intro w' hw'; go_simp; (try with_reducible rfl)
              simp only [st0_, st1_]
              refine opR_ 29 58 (v := ?_) ?_ ?_; rotate_left
              · intro w' hw'; go_simp; (try with_reducible rfl)
              simp only [st0_, st1_]
              refine opR_ 30 59 (v := ?_) ?_ ?_; rotate_left
              · intro w' hw'; go_simp; (try with_reducible rfl)
              simp only [st0_, st1_]
              refine opR_ 31 60 (v := ?_) ?_ ?_; rotate_left
              · intro w' hw'; go_simp; (try with_reducible rfl)
              simp only [st0_, st1_]
              refine opR_ 32 61 (v := ?_) ?_ ?_; rotate_left
              · intro w' hw'; go_simp; (try with_reducible rfl)
              simp only [st0_, st1_]
              refine opR_ 33 62 (v := ?_) ?_ ?_; rotate_left
              · intro w' hw'; go_simp; (try with_reducible rfl)
              simp only [st0_, st1_]
              refine opR_ 34 63 (v := ?_) ?_ ?_; rotate_left
              · intro w' hw'; go_simp; (try with_reducible rfl)
              simp only [st0_, st1_]
              refine opR_ 35 64 (v := ?_) ?_ ?_; rotate_left
              · intro w' hw'; go_simp; (try with_reducible rfl)
              simp only [st0_, st1_]
              refine opR_ 36 65 (v := ?_) ?_ ?_; rotate_left
              · intro w' hw'; go_simp; (try with_reducible rfl)
              simp only [st0_, st1_]
              refine opR_ 37 66 (v := ?_) ?_ ?_; rotate_left
              · intro w' hw'; go_simp; (try with_reducible rfl)
              simp only [st0_, st1_]
              refine opX_ 38 67 ?_
              apply Exists.intro
              apply And.intro
              · exact yr_skip (by rfl)
              simp only [st0_, st1_]
              refine opX_ 39 68 ?_
              apply Exists.intro
              apply And.intro
              · exact yr_skip (by rfl)
              simp only [st0_, st1_]
              refine opX_ 40 69 ?_
              apply Exists.intro
              apply And.intro
              · exact yr_skip (by rfl)
              simp only [st0_, st1_]
              refine opX_ 41 70 ?_
              apply Exists.intro
              apply And.intro
              · exact yr_skip (by rfl)
              simp only [st0_, st1_]
              refine opX_ 42 71 ?_
              apply Exists.intro
              apply And.intro
              · exact yr_skip (by rfl)
              simp only [st0_, st1_]
              refine opX_ 43 72 ?_
              apply Exists.intro
              apply And.intro
              · exact yr_skip (by rfl)
              simp only [st0_, st1_]
              refine opX_ 44 73 ?_
              apply Exists.intro
              apply And.intro
              · exact yr_skip (by rfl)
              simp only [st0_, st1_]
              refine opX_ 45 74 ?_
              apply Exists.intro
              apply And.intro
              · exact yr_skip (by rfl)
              simp only [st0_, st1_]
              refine opX_ 46 75 ?_
              apply Exists.intro
              apply And.intro
              · exact yr_skip (by rfl)
              simp only [st0_, st1_]
              refine opX_ 47 76 ?_
              apply Exists.intro
              apply And.intro
              · exact yr_skip (by rfl)
              simp only [st0_, st1_]
              refine opX_ 48 77 ?_
              apply Exists.intro
              apply And.intro
              · exact yr_skip (by rfl)
              simp only [st0_, st1_]
              refine opR_ 49 78 (v := ?_) ?_ ?_; rotate_left
              · intro w' hw'; go_simp; (try with_reducible rfl)
              simp only [st0_, st1_]
              refine opR_ 50 79 (v := ?_) ?_ ?_; rotate_left
              · intro w' hw'; go_simp; (try with_reducible rfl)
              simp only [st0_, st1_]
              refine opX_ 51 80 ?_
              apply Exists.intro
              apply And.intro
              · exact yr_skip (by rfl)
              simp only [st0_, st1_]
              refine opX_ 52 81 ?_
              apply Exists.intro
              apply And.intro
              · exact yr_skip (by rfl)
              simp only [st0_, st1_]
              refine opR_ 53 82 (v := ?_) ?_ ?_; rotate_left
              · intro w' hw'; go_simp; (try with_reducible rfl)
              simp only [st0_, st1_]
              refine wpR_done (by kernel_rfl) ?_ _
              intro W9 hw9
              have HBz := Lib.hid (bel_bl HB3.out (bel_bl (bel_dr (Below.refl wq.heap.size wq)) hw9))
              clear hw9 q0 q1 q2 la0 la1 la2 la3 lb0 lb1 lb2 lb3 HB3
              go_wp2
              go_ret
              exact ⟨by rw [Hno.out]; rfl, HBz.out⟩
          · clear Geo
            have q0 : ((k1 : Int) != l1) = false := by rw [e0]; exact bne_self_eq_false _
            have q1 : ((k2 : Int) != l2) = true := bne_iff_ne.2 e1
            have Hno : RowKit.Hid (R = false) := Lib.hid (Hdec.out.symm.trans (decide_eq_false (map_ne_at sdT HX.out HY.out (fun q => e1 (by have := congrArg (fun z : SD => z.1.2.1) q; exact this)))))
            clear e0 e1
            refine wp_region_reg (Nil_) (by kernel_rfl) ?_
            refine opR_ 0 29 (v := ?_) ?_ ?_; rotate_left
            · intro w' hw'; go_simp; (try with_reducible rfl)
            simp only [st0_, st1_]
            refine opR_ 1 30 (v := ?_) ?_ ?_; rotate_left
            · intro w' hw'; go_simp; (try with_reducible rfl)
            simp only [st0_, st1_]
            refine opR_ 2 31 (v := ?_) ?_ ?_; rotate_left
            · intro w' hw'; go_simp; (try with_reducible rfl)
            simp only [st0_, st1_]
            refine opR_ 3 32 (v := ?_) ?_ ?_; rotate_left
            · intro w' hw'; go_simp; (try with_reducible rfl)
            simp only [st0_, st1_]
            refine opR_ 4 33 (v := ?_) ?_ ?_; rotate_left
            · intro w' hw'; go_simp; (try with_reducible rfl)
            simp only [st0_, st1_]
            refine opR_ 5 34 (v := ?_) ?_ ?_; rotate_left
            · intro w' hw'; go_simp; (try with_reducible rfl)
            simp only [st0_, st1_]
            refine opR_ 6 35 (v := ?_) ?_ ?_; rotate_left
            · intro w' hw'; go_simp; (try with_reducible rfl)
            simp only [st0_, st1_]
            refine opR_ 7 36 (v := ?_) ?_ ?_; rotate_left
            · intro w' hw'; go_simp; (try with_reducible rfl)
            simp only [st0_, st1_]
            refine opR_ 8 37 (v := ?_) ?_ ?_; rotate_left
            · intro w' hw'; go_simp; (try with_reducible rfl)
            simp only [st0_, st1_]
            refine opR_ 9 38 (v := ?_) ?_ ?_; rotate_left
            · intro w' hw'; go_simp; (try with_reducible rfl)
            simp only [st0_, st1_]
            refine opR_ 10 39 (v := ?_) ?_ ?_; rotate_left
            · intro w' hw'; go_simp; (try with_reducible rfl)
            simp only [st0_, st1_]
            refine opR_ 11 40 (v := ?_) ?_ ?_; rotate_left
            · intro w' hw'; go_simp; (try with_reducible rfl)
            simp only [st0_, st1_]
            refine opR_ 12 41 (v := ?_) ?_ ?_; rotate_left
            · intro w' hw'; go_simp; (try with_reducible rfl)
            simp only [st0_, st1_]
            refine opR_ 13 42 (v := ?_) ?_ ?_; rotate_left
            · intro w' hw'; go_simp; (try with_reducible rfl)
            simp only [st0_, st1_]
            refine opR_ 14 43 (v := ?_) ?_ ?_; rotate_left
            · intro w' hw'; go_simp; (try with_reducible rfl)
            simp only [st0_, st1_]
            refine opR_ 15 44 (v := ?_) ?_ ?_; rotate_left
            · intro w' hw'; go_simp; (try with_reducible rfl)
            simp only [st0_, st1_]
            refine opR_ 16 45 (v := ?_) ?_ ?_; rotate_left
            · intro w' hw'; go_simp; (try with_reducible rfl)
            simp only [st0_, st1_]
            refine opR_ 17 46 (v := ?_) ?_ ?_; rotate_left
            · intro w' hw'; go_simp; (try with_reducible rfl)
            simp only [st0_, st1_]
            refine opR_ 18 47 (v := ?_) ?_ ?_; rotate_left
            · intro w' hw'; go_simp; (try with_reducible rfl)
            simp only [st0_, st1_]
            refine opR_ 19 48 (v := ?_) ?_ ?_; rotate_left
            · intro w' hw'; go_simp; (try with_reducible rfl)
            simp only [st0_, st1_]
            refine opR_ 20 49 (v := ?_) ?_ ?_; rotate_left
            · intro w' hw'; go_simp; (try with_reducible rfl)
            simp only [st0_, st1_]
            refine opR_ 21 50 (v := ?_) ?_ ?_; rotate_left
            · intro w' hw'; go_simp; (try with_reducible rfl)
            simp only [st0_, st1_]
            refine opR_ 22 51 (v := ?_) ?_ ?_; rotate_left
            · intro w' hw'; go_simp; (try with_reducible rfl)
            simp only [st0_, st1_]
            refine opR_ 23 52 (v := ?_) ?_ ?_; rotate_left
            · intro w' hw'; go_simp; (try with_reducible rfl)
            simp only [st0_, st1_]
            refine opR_ 24 53 (v := ?_) ?_ ?_; rotate_left
            · intro w' hw'; go_simp; (try with_reducible rfl)
            simp only [st0_, st1_]
            refine opX_ 25 54 ?_
            apply Exists.intro
            apply And.intro
            · exact yr_skip (by rfl)
            simp only [st0_, st1_]
            refine opX_ 26 55 ?_
            apply Exists.intro
            apply And.intro
            · exact yr_skip (by rfl)
            simp only [st0_, st1_]
            refine opX_ 27 56 ?_
            apply Exists.intro
            apply And.intro
            · exact yr_skip (by rfl)
            simp only [st0_, st1_]
            refine opX_ 28 57 ?_
            apply Exists.intro
            apply And.intro
            · exact yr_skip (by rfl)
            simp only [st0_, st1_]
            refine opX_ 29 58 ?_
            apply Exists.intro
            apply And.intro
            · exact yr_skip (by rfl)
            simp only [st0_, st1_]
            refine opX_ 30 59 ?_
            apply Exists.intro
            apply And.intro
            · exact yr_skip (by rfl)
            simp only [st0_, st1_]
            refine opX_ 31 60 ?_
            apply Exists.intro
            apply And.intro
            · exact yr_skip (by rfl)
            simp only [st0_, st1_]
            refine opX_ 32 61 ?_
            apply Exists.intro
            apply And.intro
            · exact yr_skip (by rfl)
            simp only [st0_, st1_]
            refine opX_ 33 62 ?_
            apply Exists.intro
            apply And.intro
            · exact yr_skip (by rfl)
            simp only [st0_, st1_]
            refine opX_ 34 63 ?_
            apply Exists.intro
            apply And.intro
            · exact yr_skip (by rfl)
            simp only [st0_, st1_]
            refine opX_ 35 64 ?_
            apply Exists.intro
            apply And.intro
            · exact yr_skip (by rfl)
            simp only [st0_, st1_]
            refine opR_ 36 65 (v := ?_) ?_ ?_; rotate_left
            · intro w' hw'; go_simp; (try with_reducible rfl)
            simp only [st0_, st1_]
            refine opR_ 37 66 (v := ?_) ?_ ?_; rotate_left
            · intro w' hw'; go_simp; (try with_reducible rfl)
            simp only [st0_, st1_]
            refine opX_ 38 67 ?_
            apply Exists.intro
            apply And.intro
            · exact yr_skip (by rfl)
            simp only [st0_, st1_]
            refine opX_ 39 68 ?_
            apply Exists.intro
            apply And.intro
            · exact yr_skip (by rfl)
            simp only [st0_, st1_]
            refine opX_ 40 69 ?_
            apply Exists.intro
            apply And.intro
            · exact yr_skip (by rfl)
            simp only [st0_, st1_]
            refine opX_ 41 70 ?_
            apply Exists.intro
            apply And.intro
            · exact yr_skip (by rfl)
            simp only [st0_, st1_]
            refine opX_ 42 71 ?_
            apply Exists.intro
            apply And.intro
            · exact yr_skip (by rfl)
            simp only [st0_, st1_]
            refine opX_ 43 72 ?_
            apply Exists.intro
            apply And.intro
            · exact yr_skip (by rfl)
            simp only [st0_, st1_]
            refine opX_ 44 73 ?_
            apply Exists.intro
            apply And.intro
            · exact yr_skip (by rfl)
            simp only [st0_, st1_]
            refine opX_ 45 74 ?_
            apply Exists.intro
            apply And.intro
            · exact yr_skip (by rfl)
            simp only [st0_, st1_]
            refine opX_ 46 75 ?_
            apply Exists.intro
            apply And.intro
            · exact yr_skip (by rfl)
            simp only [st0_, st1_]
            refine opX_ 47 76 ?_
            apply Exists.intro
            apply And.intro
            · exact yr_skip (by rfl)
            simp only [st0_, st1_]
            refine opX_ 48 77 ?_
            apply Exists.intro
            apply And.intro
            · exact yr_skip (by rfl)
            simp only [st0_, st1_]
            refine opR_ 49 78 (v := ?_) ?_ ?_; rotate_left
            · intro w' hw'; go_simp; (try with_reducible rfl)
            simp only [st0_, st1_]
            refine opR_ 50 79 (v := ?_) ?_ ?_; rotate_left
            · intro w' hw'; go_simp; (try with_reducible rfl)
            simp only [st0_, st1_]
            refine opX_ 51 80 ?_
            apply Exists.intro
            apply And.intro
            · exact yr_skip (by rfl)
            simp only [st0_, st1_]
            refine opX_ 52 81 ?_
            apply Exists.intro
            apply And.intro
            · exact yr_skip (by rfl)
            simp only [st0_, st1_]
            refine opR_ 53 82 (v := ?_) ?_ ?_; rotate_left
            · intro w' hw'; go_simp; (try with_reducible rfl)
            simp only [st0_, st1_]
            refine wpR_done (by kernel_rfl) ?_ _
            intro W9 hw9
            have HBz := Lib.hid (bel_bl HB3.out (bel_bl (bel_dr (Below.refl wq.heap.size wq)) hw9))
            clear hw9 q0 q1 la0 la1 la2 la3 lb0 lb1 lb2 lb3 HB3
            go_wp2
            go_ret
            exact ⟨by rw [Hno.out]; rfl, HBz.out⟩
        · clear Geo
          have q0 : ((k1 : Int) != l1) = true := bne_iff_ne.2 e0
          have Hno : RowKit.Hid (R = false) := Lib.hid (Hdec.out.symm.trans (decide_eq_false (map_ne_at sdT HX.out HY.out (fun q => e0 (by have := congrArg (fun z : SD => z.1.1) q; exact this)))))
          clear e0
          refine wp_region_reg (Nil_) (by kernel_rfl) ?_
          refine opR_ 0 29 (v := ?_) ?_ ?_; rotate_left
          · intro w' hw'; go_simp; (try with_reducible rfl)
          simp only [st0_, st1_]
          refine opR_ 1 30 (v := ?_) ?_ ?_; rotate_left
          · intro w' hw'; go_simp; (try with_reducible rfl)
          simp only [st0_, st1_]
          refine opR_ 2 31 (v := ?_) ?_ ?_; rotate_left
          · intro w' hw'; go_simp; (try with_reducible rfl)
          simp only [st0_, st1_]
          refine opR_ 3 32 (v := ?_) ?_ ?_; rotate_left
          · intro w' hw'; go_simp; (try with_reducible rfl)
          simp only [st0_, st1_]
          refine opR_ 4 33 (v := ?_) ?_ ?_; rotate_left
          · intro w' hw'; go_simp; (try with_reducible rfl)
          simp only [st0_, st1_]
          refine opR_ 5 34 (v := ?_) ?_ ?_; rotate_left
          · intro w' hw'; go_simp; (try with_reducible rfl)
          simp only [st0_, st1_]
          refine opR_ 6 35 (v := ?_) ?_ ?_; rotate_left
          · intro w' hw'; go_simp; (try with_reducible rfl)
          simp only [st0_, st1_]
          refine opR_ 7 36 (v := ?_) ?_ ?_; rotate_left
          · intro w' hw'; go_simp; (try with_reducible rfl)
          simp only [st0_, st1_]
          refine opR_ 8 37 (v := ?_) ?_ ?_; rotate_left
          · intro w' hw'; go_simp; (try with_reducible rfl)
          simp only [st0_, st1_]
          refine opR_ 9 38 (v := ?_) ?_ ?_; rotate_left
          · intro w' hw'; go_simp; (try with_reducible rfl)
          simp only [st0_, st1_]
          refine opR_ 10 39 (v := ?_) ?_ ?_; rotate_left
          · intro w' hw'; go_simp; (try with_reducible rfl)
          simp only [st0_, st1_]
          refine opR_ 11 40 (v := ?_) ?_ ?_; rotate_left
          · intro w' hw'; go_simp; (try with_reducible rfl)
          simp only [st0_, st1_]
          refine opX_ 12 41 ?_
          apply Exists.intro
          apply And.intro
          · exact yr_skip (by rfl)
          simp only [st0_, st1_]
          refine opX_ 13 42 ?_
          apply Exists.intro
          apply And.intro
          · exact yr_skip (by rfl)
          simp only [st0_, st1_]
          refine opX_ 14 43 ?_
          apply Exists.intro
          apply And.intro
          · exact yr_skip (by rfl)
          simp only [st0_, st1_]
          refine opX_ 15 44 ?_
          apply Exists.intro
          apply And.intro
          · exact yr_skip (by rfl)
          simp only [st0_, st1_]
          refine opX_ 16 45 ?_
          apply Exists.intro
          apply And.intro
          · exact yr_skip (by rfl)
          simp only [st0_, st1_]
          refine opX_ 17 46 ?_
          apply Exists.intro
          apply And.intro
          · exact yr_skip (by rfl)
          simp only [st0_, st1_]
          refine opX_ 18 47 ?_
          apply Exists.intro
          apply And.intro
          · exact yr_skip (by rfl)
          simp only [st0_, st1_]
          refine opX_ 19 48 ?_
          apply Exists.intro
          apply And.intro
          · exact yr_skip (by rfl)
          simp only [st0_, st1_]
          refine opX_ 20 49 ?_
          apply Exists.intro
          apply And.intro
          · exact yr_skip (by rfl)
          simp only [st0_, st1_]
          refine opX_ 21 50 ?_
          apply Exists.intro
          apply And.intro
          · exact yr_skip (by rfl)
          simp only [st0_, st1_]
          refine opX_ 22 51 ?_
          apply Exists.intro
          apply And.intro
          · exact yr_skip (by rfl)
          simp only [st0_, st1_]
          refine opR_ 23 52 (v := ?_) ?_ ?_; rotate_left
          · intro w' hw'; go_simp; (try with_reducible rfl)
          simp only [st0_, st1_]
          refine opR_ 24 53 (v := ?_) ?_ ?_; rotate_left
          · intro w' hw'; go_simp; (try with_reducible rfl)
          simp only [st0_, st1_]
          refine opX_ 25 54 ?_
          apply Exists.intro
          apply And.intro
          · exact yr_skip (by rfl)
          simp only [st0_, st1_]
          refine opX_ 26 55 ?_
          apply Exists.intro
          apply And.intro
          · exact yr_skip (by rfl)
          simp only [st0_, st1_]
          refine opX_ 27 56 ?_
          apply Exists.intro
          apply And.intro
          · exact yr_skip (by rfl)
          simp only [st0_, st1_]
          refine opX_ 28 57 ?_
          apply Exists.intro
          apply And.intro
          · exact yr_skip (by rfl)
          simp only [st0_, st1_]
          refine opX_ 29 58 ?_
          apply Exists.intro
          apply And.intro
          · exact yr_skip (by rfl)
          simp only [st0_, st1_]
          refine opX_ 30 59 ?_
          apply Exists.intro
          apply And.intro
          · exact yr_skip (by rfl)
          simp only [st0_, st1_]
          refine opX_ 31 60 ?_
          apply Exists.intro
          apply And.intro
          · exact yr_skip (by rfl)
          simp only [st0_, st1_]
          refine opX_ 32 61 ?_
          apply Exists.intro
          apply And.intro
          · exact yr_skip (by rfl)
          simp only [st0_, st1_]
          refine opX_ 33 62 ?_
          apply Exists.intro
          apply And.intro
          · exact yr_skip (by rfl)
          simp only [st0_, st1_]
          refine opX_ 34 63 ?_
          apply Exists.intro
          apply And.intro
          · exact yr_skip (by rfl)
          simp only [st0_, st1_]
          refine opX_ 35 64 ?_
          apply Exists.intro
          apply And.intro
          · exact yr_skip (by rfl)
          simp only [st0_, st1_]
          refine opR_ 36 65 (v := ?_) ?_ ?_; rotate_left
          · intro w' hw'; go_simp; (try with_reducible rfl)
          simp only [st0_, st1_]
          refine opR_ 37 66 (v := ?_) ?_ ?_; rotate_left
          · intro w' hw'; go_simp; (try with_reducible rfl)
          simp only [st0_, st1_]
          refine opX_ 38 67 ?_
          apply Exists.intro
          apply And.intro
          · exact yr_skip (by rfl)
          simp only [st0_, st1_]
          refine opX_ 39 68 ?_
          apply Exists.intro
          apply And.intro
          · exact yr_skip (by rfl)
          simp only [st0_, st1_]
          refine opX_ 40 69 ?_
          apply Exists.intro
          apply And.intro
          · exact yr_skip (by rfl)
          simp only [st0_, st1_]
          refine opX_ 41 70 ?_
          apply Exists.intro
          apply And.intro
          · exact yr_skip (by rfl)
          simp only [st0_, st1_]
          refine opX_ 42 71 ?_
          apply Exists.intro
          apply And.intro
          · exact yr_skip (by rfl)
          simp only [st0_, st1_]
          refine opX_ 43 72 ?_
          apply Exists.intro
          apply And.intro
          · exact yr_skip (by rfl)
          simp only [st0_, st1_]
          refine opX_ 44 73 ?_
          apply Exists.intro
          apply And.intro
          · exact yr_skip (by rfl)
          simp only [st0_, st1_]
          refine opX_ 45 74 ?_
          apply Exists.intro
          apply And.intro
          · exact yr_skip (by rfl)
          simp only [st0_, st1_]
          refine opX_ 46 75 ?_
          apply Exists.intro
          apply And.intro
          · exact yr_skip (by rfl)
          simp only [st0_, st1_]
          refine opX_ 47 76 ?_
          apply Exists.intro
          apply And.intro
          · exact yr_skip (by rfl)
          simp only [st0_, st1_]
          refine opX_ 48 77 ?_
          apply Exists.intro
          apply And.intro
          · exact yr_skip (by rfl)
          simp only [st0_, st1_]
          refine opR_ 49 78 (v := ?_) ?_ ?_; rotate_left
          · intro w' hw'; go_simp; (try with_reducible rfl)
          simp only [st0_, st1_]
          refine opR_ 50 79 (v := ?_) ?_ ?_; rotate_left
          · intro w' hw'; go_simp; (try with_reducible rfl)
          simp only [st0_, st1_]
          refine opX_ 51 80 ?_
          apply Exists.intro
          apply And.intro
          · exact yr_skip (by rfl)
          simp only [st0_, st1_]
          refine opX_ 52 81 ?_
          apply Exists.intro
          apply And.intro
          · exact yr_skip (by rfl)
          simp only [st0_, st1_]
          refine opR_ 53 82 (v := ?_) ?_ ?_; rotate_left
          · intro w' hw'; go_simp; (try with_reducible rfl)
          simp only [st0_, st1_]
          refine wpR_done (by kernel_rfl) ?_ _
          intro W9 hw9
          have HBz := Lib.hid (bel_bl HB3.out (bel_bl (bel_dr (Below.refl wq.heap.size wq)) hw9))
          clear hw9 q0 la0 la1 la2 la3 lb0 lb1 lb2 lb3 HB3
          go_wp2
          go_ret
          exact ⟨by rw [Hno.out]; rfl, HBz.out⟩
      · obtain rfl : n = j := by omega
        have hp := HP.out
        rw [List.take_of_length_le (by rw [Hl.out]; exact Nat.le_refl _), List.take_of_length_le (by rw [Hl'.out]; exact Nat.le_refl _)] at hp
        have hR : true = R := (decide_eq_true hp).symm.trans Hdec.out
        subst hR
        clear hp HP
        go_wp2
        go_ret
        exact ⟨rfl, HB.out⟩
  · have hd : decide (Ls.map sdT = Ms.map sdT) = false := decide_eq_false (fun q => hnn (by have := congrArg List.length q; rw [List.length_map, List.length_map, Hl.out, Hl'.out] at this; exact this))
    rw [hd]
    have hq : ((n : Int) != (n' : Int)) = true := bne_iff_ne.2 (by omega)
    clear hd
    go_enter Try.func12, Try.ntmps12
    go_wp2
    go_ret
    exact ⟨rfl, HB0.out⟩
end Go.Proofs.Ytinfbaflkjghhaa
/- The law's few: at most 30 steps, of 8 operations, texts cut. -/
namespace Go.Proofs.Ytinfbaflkjghhaa
open Go.RowKit
theorem rowsS1 (x : StT) : rowsV stC [x] = stC x := by simp [rowsV]
theorem info_stp : (Try.prog.info? 30).map (fun i => (i.zero, i.size, i.bytes)) = some (some (.agg #[.int .i64 0, .int .i64 0, .int .i64 0, .int .i64 0, .slice none 0 0]), 5, 56) := by kernel_rfl
def few8 (L : List OpT) : List OpT := (L.take 8).map cutO
def fewS (X : List SD) : List SD := (X.take 30).map (fun s => (s.1, few8 s.2))
/-- A row of steps of the call's own, and what lies behind it. -/
structure StW (lo : Nat) (W : World) (v : Value) (n : Nat) (Ts : List StT) : Prop where
  row : W.ownsRow lo 30 5 v n (rowsV stC Ts)
  each : ∀ s ∈ Ts, W.ownsRow lo 53 20 (.slice s.2.1 s.2.2.1 s.2.2.2.1) s.2.2.1 (rowsV opCells s.2.2.2.2)
theorem StW.up {lo n : Nat} {W W' : World} {v : Value} {Ts : List StT} (h : StW lo W v n Ts) (hb : Below W.heap.size W W') : StW lo W' v n Ts := ⟨own_up h.row hb, fun s hs => own_up (h.each s hs) hb⟩
theorem StW.rd {lo n c : Nat} {W : World} {A : Option Addr} {Ts : List StT} (h : StW lo W (.slice A n c) n Ts) (hf : ∀ s ∈ Ts, s.2.2.1 ≤ 1000000) (ht : ∀ s ∈ Ts, ∀ o ∈ s.2.2.2.2, o.t.size ≤ maxLen) (hi : ∀ s ∈ Ts, In4 s.1) : StRd W A n c Ts :=
  ⟨own_rds h.row, fun s hs => ⟨own_rds (h.each s hs), hf s hs, ht s hs, hi s hs⟩⟩
theorem few8_max (L : List OpT) : ∀ o ∈ few8 L, o.t.size ≤ maxLen := fun o ho => by
  obtain ⟨x, -, rfl⟩ := List.mem_map.1 ho
  have := cutO_size x
  unfold maxLen
  omega
theorem fewS_ok {X : List SD} (h : ∀ s ∈ X, In4 s.1) : ∀ s ∈ fewS X, In4 s.1 ∧ ∀ o ∈ s.2, o.t.size ≤ maxLen := fun s hs => by
  obtain ⟨x, hx, rfl⟩ := List.mem_map.1 hs
  exact ⟨h x (List.mem_of_mem_take hx), few8_max _⟩
theorem few_rd {lo n c : Nat} {W : World} {A : Option Addr} {Ts : List StT} {X : List SD} (h : StW lo W (.slice A n c) n Ts) (hf : ∀ s ∈ Ts, s.2.2.1 ≤ 8) (he : Ts.map sdT = fewS X) (hi : ∀ s ∈ X, In4 s.1) : StRd W A n c Ts := by
  have hk : ∀ s ∈ Ts, In4 s.1 ∧ ∀ o ∈ s.2.2.2.2, o.t.size ≤ maxLen := fun s hs => fewS_ok hi (sdT s) (by rw [← he]; exact List.mem_map_of_mem hs)
  exact h.rd (fun s hs => by have := hf s hs; omega) (fun s hs => (hk s hs).2) (fun s hs => (hk s hs).1)
theorem map_take_next {α β : Type} (f : α → β) {l : List α} {N k : Nat} {x : α} (hx : l[k]? = some x) (hN : k < N) : ((l.take N).map f).take (k + 1) = ((l.take N).map f).take k ++ [f x] := take_snoc_ _ _ _ (by rw [List.getElem?_map, List.getElem?_take, if_pos hN, hx]; rfl)
theorem map_take_all {α β : Type} (f : α → β) {l : List α} {N k n : Nat} (hl : l.length = n) (hkn : k ≤ n) (hkN : k ≤ N) (h : ¬ (k < n ∧ k < N)) : ((l.take N).map f).take k = (l.take N).map f ∧ ((l.take N).map f).length = k := by
  rw [List.length_map, List.length_take, hl]
  exact ⟨List.take_of_length_le (by rw [List.length_map, List.length_take, hl]; omega), by omega⟩
set_option maxRecDepth 100000 in
set_option maxHeartbeats 8000000 in
theorem few23_any (A0 : Option Addr) (n c0 : Nat) (Ls : List StT) (w : World) (h : RdS w w.heap.size 5 A0 n c0 (rowsV stC Ls)) (he : ∀ s ∈ Ls, RdS w w.heap.size 20 s.2.1 s.2.2.1 s.2.2.2.1 (rowsV opCells s.2.2.2.2)) (hn : n ≤ maxLen) :
    Calls Try.prog 9 #[.slice A0 n c0] w fun e w' => ∃ A c Ts N, e = .returned (.slice A N c) ∧ N ≤ 30 ∧ Ts.map sdT = fewS (Ls.map sdT) ∧ StW w.heap.size w' (.slice A N c) N Ts ∧ (∀ s ∈ Ts, s.2.2.1 ≤ 8) ∧ Below w.heap.size w w' := by
  obtain ⟨i0, hi, hz0, hz1, hz2⟩ := info_parts_ info_op
  obtain ⟨iS, hiS, zS0, zS1, zS2⟩ := info_parts_ info_stp
  have HR := Lib.hid h
  have HEa := Lib.hid he
  have Hl : RowKit.Hid ((Ls.map sdT).length = n) := Lib.hid (by rw [List.length_map]; exact h.rlen stC_len (by decide))
  have Hl0 : RowKit.Hid (Ls.length = n) := Lib.hid (h.rlen stC_len (by decide))
  clear h he
  go_enter Try.func9, Try.ntmps9
  go_upto_region 3 with fail
  obtain ⟨wS, gwS⟩ : ∃ z, w.alloc (.cells #[] 30) = z := ⟨_, rfl⟩
  have HO0 : RowKit.Hid (Ow w w.heap.size 30 5 (.slice (some ⟨w.heap.size, 0, none⟩) 0 0) 0 (rowsV stC []) wS) := Lib.hid (gwS ▸ Ow.new_ (cs := #[]) (Below.refl _ _) (Nat.le_refl _) (Nat.le_refl _) (Nat.zero_le _) rfl)
  obtain ⟨v0, gv0⟩ : ∃ z : Value, .slice (some ⟨w.heap.size, 0, none⟩) 0 0 = z := ⟨_, rfl⟩
  rw [gwS, gv0]
  rw [gv0] at HO0
  clear gwS gv0
  go_loopw [3, 4] (fun v i wr => ∃ (k : Nat) (Ts : List StT), k ≤ 30 ∧ k ≤ n ∧ i = .int .i64 (k : Int) ∧ RowKit.Hid (Ow w w.heap.size 30 5 v k (rowsV stC Ts) wr) ∧ RowKit.Hid (Ts.map sdT = (fewS (Ls.map sdT)).take k) ∧ RowKit.Hid (∀ s ∈ Ts, s.2.2.1 ≤ 8 ∧ wr.ownsRow w.heap.size 53 20 (.slice s.2.1 s.2.2.1 s.2.2.2.1) s.2.2.1 (rowsV opCells s.2.2.2.2))) (fun _ i _ => 30 - (intOf i).toNat)
  case atStart => exact ⟨0, [], Nat.zero_le _, Nat.zero_le _, rfl, HO0, Lib.hid rfl, Lib.hid (fun s hs => by cases hs)⟩
  case round =>
    clear HO0
    obtain ⟨k, Ts, hk30, hkn, rfl, HO, HT, HE⟩ := hrel
    obtain ⟨wo, gwo⟩ : ∃ z, wr = z := ⟨_, rfl⟩
    rw [gwo] at HO HE ⊢
    clear gwo
    obtain ⟨Ac, cc, rfl, -⟩ := HO.out.rds
    by_cases hlt : k < n ∧ k < 30
    · obtain ⟨hl1, hl2⟩ := hlt
      have hi1 : (k : Int) < (n : Int) := by omega
      have hi2 : (k : Int) < 30 := by omega
      obtain ⟨x, hx⟩ : ∃ x, Ls[k]? = some x := ⟨_, List.getElem?_eq_getElem (by have := Hl0.out; omega)⟩
      have HNx : RowKit.Hid ((fewS (Ls.map sdT)).take (k + 1) = (fewS (Ls.map sdT)).take k ++ [((sdT x).1, few8 (sdT x).2)]) := Lib.hid (map_take_next (fun s : SD => (s.1, few8 s.2)) (by rw [List.getElem?_map, hx]; rfl) hl2)
      have HRx := Lib.hid ((HEa.out x (List.mem_of_getElem? hx)).bl HO.out.below)
      obtain ⟨b, off, rfl, hbB, hpl⟩ := (HR.out.bl HO.out.below).place stC_len (by decide) (by omega)
      have HP := Lib.hid (hpl k x hx)
      clear hx hpl hbB
      obtain ⟨hd, Ax, nx, cx, Lx⟩ := x
      have HLx : RowKit.Hid (Lx.length = nx) := Lib.hid (HRx.out.rlen opCells_len' (by decide))
      go_upto_region 5 with fail
      refine wp_region_lit ?_
      refine wl_read (v := ?_) (some 20) rfl (by rfl) ?_ ?_
      rotate_left
      · go_simp; (try with_reducible rfl)
      simp only [Act.put, stA_, st0_, st1_]
      refine wl_read (v := ?_) (some 21) rfl (by rfl) ?_ ?_
      rotate_left
      · go_simp; (try with_reducible rfl)
      simp only [Act.put, stA_, st0_, st1_]
      refine wl_read (v := ?_) (some 22) rfl (by rfl) ?_ ?_
      rotate_left
      · go_simp; (try with_reducible rfl)
      simp only [Act.put, stA_, st0_, st1_]
      refine wl_load_at (some 23) rfl (by rfl) 30 (.tmp 22) rfl ⟨b, off + k * 5, none⟩ rfl (stC (hd, (Ax, nx, cx, Lx))) _ HP.out Try.underlying30 rfl (by kernel_rfl) ?_
      simp only [Act.put, stA_, st0_, st1_]
      refine wl_new 5 rfl rfl rfl 30 (.tmp 23) rfl rfl #[.int .i64 0, .int .i64 0, .int .i64 0, .int .i64 0, .slice none 0 0] ?_ (stC (hd, (Ax, nx, cx, Lx))).toArray (by simp) rfl (by kernel_rfl) rfl (by simp [stC, Value.oneCell']) ?_
      · go_simp; (try with_reducible rfl)
      simp only [Act.put, stA_, st0_, st1_]
      go_upto_region 8 with fail
      have hb5 := below1 wo (.cells (stC (hd, (Ax, nx, cx, Lx))).toArray 30)
      have hb6 := bel_al hb5 (.cells #[.slice none 0 0] 28)
      have hX5 : Whole ((wo.alloc (.cells (stC (hd, (Ax, nx, cx, Lx))).toArray 30)).alloc (.cells #[.slice none 0 0] 28)) wo.heap.size 30 (stC (hd, (Ax, nx, cx, Lx))) := (Whole.new_ wo 30 _).alloc _
      have hX6 : Whole ((wo.alloc (.cells (stC (hd, (Ax, nx, cx, Lx))).toArray 30)).alloc (.cells #[.slice none 0 0] 28)) (wo.heap.size + 1) 28 [.slice none 0 0] := Whole.new2 (w := wo.alloc (.cells (stC (hd, (Ax, nx, cx, Lx))).toArray 30)) (by simp)
      have Hne : RowKit.Hid (some wo.heap.size ≠ (Value.slice Ac k cc).ownBlock) := Lib.hid (Ow.ne_ HO.out (Nat.le_refl _))
      obtain ⟨W2, gW2⟩ : ∃ z, (wo.alloc (.cells (stC (hd, (Ax, nx, cx, Lx))).toArray 30)).alloc (.cells #[.slice none 0 0] 28) = z := ⟨_, rfl⟩
      obtain ⟨b6, gb6⟩ : ∃ z, wo.heap.size + 1 = z := ⟨_, rfl⟩
      obtain ⟨b5, gb5⟩ : ∃ z, wo.heap.size = z := ⟨_, rfl⟩
      rw [gW2] at hb6 hX5 hX6 ⊢
      rw [gb6] at hX6 ⊢
      rw [gb5] at hX5 Hne ⊢
      have HX5 := Lib.hid hX5
      have HX6 := Lib.hid hX6
      have Hb : RowKit.Hid (b5 ≠ b6 ∧ wo.heap.size ≤ b5 ∧ wo.heap.size ≤ b6) := Lib.hid (by omega)
      have HI0 : RowKit.Hid (Ow wo wo.heap.size 53 20 (.slice none 0 0) 0 (rowsV opCells ((few8 Lx).take 0)) W2) := Lib.hid ⟨World.ownsRow_nil _ _ _ _, gb5 ▸ hb6, Nat.le_refl _, by have := hb6.size; omega⟩
      clear hb5 hb6 hX5 hX6 gW2 gb6 gb5 HP
      go_loopw [7] (fun i wr => ∃ (q : Nat) (A : Option Addr) (c : Nat), q ≤ 8 ∧ q ≤ nx ∧ i = .int .i64 (q : Int) ∧ RowKit.Hid (Ow wo wo.heap.size 53 20 (.slice A q c) q (rowsV opCells ((few8 Lx).take q)) wr ∧ Whole wr b5 30 (stC (hd, (Ax, nx, cx, Lx))) ∧ Whole wr b6 28 [.slice A q c])) (fun i _ => 8 - (intOf i).toNat)
      case atStart => exact ⟨0, none, 0, Nat.zero_le _, Nat.zero_le _, rfl, Lib.hid ⟨HI0.out, HX5.out, HX6.out⟩⟩
      case round =>
        clear HI0 HX5 HX6
        obtain ⟨q, A, c, hq8, hqn, rfl, hin⟩ := hrel
        have HI := Lib.hid hin.out.1
        have HX5 := Lib.hid hin.out.2.1
        have HX6 := Lib.hid hin.out.2.2
        clear hin
        obtain ⟨wp, gwp⟩ : ∃ z, wr = z := ⟨_, rfl⟩
        rw [gwp] at HI HX5 HX6 ⊢
        clear gwp
        have e5 : wp.cell? ⟨b5, 4, none⟩ = some (.slice Ax nx cx) := HX5.out.cell (i := 4) rfl
        by_cases hqlt : q < nx ∧ q < 8
        · obtain ⟨hq1, hq2⟩ := hqlt
          have hj1 : (q : Int) < (nx : Int) := by omega
          have hj2 : (q : Int) < 8 := by omega
          obtain ⟨o, ho⟩ : ∃ o, Lx[q]? = some o := ⟨_, List.getElem?_eq_getElem (by have := HLx.out; omega)⟩
          have HNo : RowKit.Hid ((few8 Lx).take (q + 1) = (few8 Lx).take q ++ [cutO o]) := Lib.hid (map_take_next cutO ho hq2)
          obtain ⟨b', off', gAx, hbB', hpl'⟩ := (HRx.out.bl HI.out.below).place opCells_len' (by decide) (by omega)
          have HPo := Lib.hid (hpl' q o ho)
          rw [gAx] at e5
          clear ho hpl' hbB'
          go_upto_region 10 with fail
          refine wp_region_lit ?_
          refine wl_read (v := ?_) (some 37) rfl (by rfl) ?_ ?_
          rotate_left
          · go_simp; (try with_reducible rfl)
          simp only [Act.put, stA_, st0_, st1_]
          refine wl_read (v := ?_) (some 38) rfl (by rfl) ?_ ?_
          rotate_left
          · go_simp; (try with_reducible rfl)
          simp only [Act.put, stA_, st0_, st1_]
          refine wl_read (v := ?_) (some 39) rfl (by rfl) ?_ ?_
          rotate_left
          · go_simp; (try with_reducible rfl)
          simp only [Act.put, stA_, st0_, st1_]
          refine wl_read (v := ?_) (some 40) rfl (by rfl) ?_ ?_
          rotate_left
          · go_simp; (try with_reducible rfl)
          simp only [Act.put, stA_, st0_, st1_]
          refine wl_read (v := ?_) (some 41) rfl (by rfl) ?_ ?_
          rotate_left
          · go_simp; (try with_reducible rfl)
          simp only [Act.put, stA_, st0_, st1_]
          refine wl_load_at (some 42) rfl (by rfl) 53 (.tmp 41) rfl ⟨b', off' + q * 20, none⟩ rfl (opCells o) _ HPo.out Try.underlying53 rfl (by kernel_rfl) ?_
          simp only [Act.put, stA_, st0_, st1_]
          refine wl_new 8 rfl rfl rfl 53 (.tmp 42) rfl rfl #[.int .i64 0, .int .i64 0, .int .i64 0, .int .i64 0, .int .i64 0, .int .i64 0, .int .i64 0, .int .i64 0, .int .i64 0, .int .i64 0, .int .i64 0, .int .i64 0, .int .i64 0, .int .i64 0, .int .i64 0, .int .i64 0, .int .i64 0, .bool false, .string ⟨#[]⟩, .int .i64 0] ?_ (opCells o).toArray (by simp) rfl (by kernel_rfl) rfl (opCells_arr _) ?_
          · go_simp; (try with_reducible rfl)
          simp only [Act.put, stA_, st0_, st1_]
          have HI2 := Lib.hid (HI.out.up (below1 wp (.cells (opCells o).toArray 53)))
          have HY2 : RowKit.Hid (Whole (wp.alloc (.cells (opCells o).toArray 53)) wp.heap.size 53 (opCells o)) := Lib.hid (Whole.new_ _ _ _)
          have HX52 := Lib.hid (HX5.out.al (.cells (opCells o).toArray 53))
          have HX62 := Lib.hid (HX6.out.al (.cells (opCells o).toArray 53))
          have Hg8 : RowKit.Hid (b5 ≠ wp.heap.size ∧ b6 ≠ wp.heap.size ∧ wo.heap.size ≤ wp.heap.size) := Lib.hid (by have := HX5.out.lt; have := HX6.out.lt; have := HI.out.below.size; omega)
          have HNe : RowKit.Hid (some wp.heap.size ≠ _) := Lib.hid (Ow.ne_ HI.out (Nat.le_refl _))
          obtain ⟨W3, gW3⟩ : ∃ x, wp.alloc (.cells (opCells o).toArray 53) = x := ⟨_, rfl⟩
          obtain ⟨g8, gg8⟩ : ∃ x, wp.heap.size = x := ⟨_, rfl⟩
          rw [gW3] at HI2 HY2 HX52 HX62 ⊢
          rw [gg8] at HY2 Hg8 HNe ⊢
          clear gW3 gg8 HI HX5 HX6 HPo e5 gAx
          have y18 : W3.cell? ⟨g8, 18, none⟩ = some (.string o.t) := HY2.out.cell (i := 18) rfl
          have z18 := HY2.out.free 18
          obtain ⟨o', go'⟩ : ∃ z, cutO o = z := ⟨_, rfl⟩
          rw [go'] at HNo
          go_upto_region 11 with fail
          go_upto_if 46 with fail
          go_cut [] (fun z => Ow wo wo.heap.size 53 20 (.slice A q c) q (rowsV opCells ((few8 Lx).take q)) z ∧ Whole z b5 30 (stC (hd, (Ax, nx, cx, Lx))) ∧ Whole z b6 28 [.slice A q c] ∧ Whole z g8 53 (opCells o'))
          case first =>
            by_cases ht : 100 < o.t.size
            · have HC9 : RowKit.Hid (cutO o = { o with t := o.t.extract 0 100 }) := Lib.hid (by unfold cutO; rw [if_pos ht])
              have ht1 : (100 : Int) < (o.t.size : Int) := by omega
              have ht2 : 100 ≤ o.t.size := by omega
              have hY3 := HY2.out.set_ 18 (.string (o.t.extract 0 100))
              have hcc : (opCells o).set 18 (.string (o.t.extract 0 100)) = opCells o' := by rw [← go', HC9.out]; rfl
              rw [hcc] at hY3
              have HY3 := Lib.hid hY3
              have HX53 := Lib.hid (HX52.out.far (p := ⟨g8, 18, none⟩) Hg8.out.1 (.string (o.t.extract 0 100)))
              have HX63 := Lib.hid (HX62.out.far (p := ⟨g8, 18, none⟩) Hg8.out.2.1 (.string (o.t.extract 0 100)))
              have HI3 : RowKit.Hid (Ow wo wo.heap.size 53 20 (.slice A q c) q (rowsV opCells ((few8 Lx).take q)) (W3.setCell ⟨g8, 18, none⟩ (.string (o.t.extract 0 100)))) := Lib.hid ⟨own_cell_far HI2.out.own HNe.out _, HI2.out.below.setCell (p := ⟨g8, 18, none⟩) Hg8.out.2.2 _, HI2.out.lo, by simpa [World.setCell] using HI2.out.hi⟩
              clear hY3 hcc HC9 go' HI2 HX52 HX62 HY2 ht
              go_wp2
              go_meet
              exact ⟨HI3.out, HX53.out, HX63.out, HY3.out⟩
            · have ht1 : ¬ (100 : Int) < (o.t.size : Int) := by omega
              have hcc : o = o' := by rw [← go']; unfold cutO; rw [if_neg ht]
              have HY3 : RowKit.Hid (Whole W3 g8 53 (opCells o')) := Lib.hid (hcc ▸ HY2.out)
              clear hcc go' HY2 ht
              go_wp2
              go_meet
              exact ⟨HI2.out, HX52.out, HX62.out, HY3.out⟩
          case rest =>
            clear HI2 HX52 HX62 HY2 y18 z18 go'
            obtain ⟨hcI, hc5, hc6, hcY⟩ := hcut
            obtain ⟨wq, gwq⟩ : ∃ z, wc = z := ⟨_, rfl⟩
            rw [gwq] at hcI hc5 hc6 hcY ⊢
            have HI3 := Lib.hid hcI
            have HX53 := Lib.hid hc5
            have HX63 := Lib.hid hc6
            have HY3 := Lib.hid hcY
            clear gwq hcI hc5 hc6 hcY
            have e6 := HX63.out.cell (i := 0) rfl
            go_upto_region 13 with fail
            refine wp_region_lit ?_
            refine wl_read (v := ?_) (some 51) rfl (by rfl) ?_ ?_
            rotate_left
            · go_simp; (try with_reducible rfl)
            simp only [Act.put, stA_, st0_, st1_]
            refine wl_read (v := ?_) (some 52) rfl (by rfl) ?_ ?_
            rotate_left
            · go_simp; (try with_reducible rfl)
            simp only [Act.put, stA_, st0_, st1_]
            refine wl_load (some 53) rfl (by rfl) 53 (.tmp 8) rfl g8 rfl 53 (opCells o') _ HY3.out Try.underlying53 rfl (by kernel_rfl) ?_
            simp only [Act.put, stA_, st0_, st1_]
            refine wl_buildSlice (some 54) rfl (by rfl) 26 53 1 #[(0, .tmp 53)] rfl Try.underlying26 (opCells o').toArray (by kernel_rfl) ?_
            simp only [Act.put, stA_, st0_, st1_]
            have HL4 : RowKit.Hid (RdS (wq.alloc (.cells (opCells o').toArray 53)) (wq.alloc (.cells (opCells o').toArray 53)).heap.size 20 (some ⟨wq.heap.size, 0, none⟩) 1 1 (rowsV opCells [o'])) := Lib.hid (by rw [rowsOp1]; exact RdS.of_whole8 (Whole.new_ _ _ _) rfl)
            have HI4 := Lib.hid (HI3.out.up (below1 wq (.cells (opCells o').toArray 53)))
            have HX54 := Lib.hid (HX53.out.al (.cells (opCells o').toArray 53))
            have HX64 := Lib.hid (HX63.out.al (.cells (opCells o').toArray 53))
            obtain ⟨W4, gW4⟩ : ∃ z, wq.alloc (.cells (opCells o').toArray 53) = z := ⟨_, rfl⟩
            obtain ⟨g9, gg9⟩ : ∃ z, wq.heap.size = z := ⟨_, rfl⟩
            rw [gW4] at HL4 HI4 HX54 HX64 ⊢
            rw [gg9] at HL4 ⊢
            clear gW4 gg9 e6 HI3 HX53 HX63 HY3
            go_wp2_with (first
              | (at_builtin
                 refine wpList_push2 rfl (.tmp 52) (.tmp 54) _ rfl _ 53 i0 _ 20 168 Try.underlying26 hi hz0 hz1 hz2 rfl (by decide) _ _ _ rfl HI4.out _ _ _ _ _ rfl HL4.out (rowsV_one opCells opCells_one [o']) (by unfold maxLen; omega) (by omega) ?_
                 intro v5 W5 how5 hb5 hgr5
                 obtain ⟨A5, c5, rfl, -⟩ := how5.rds
                 have HI5 := Lib.hid how5
                 have HX55 := Lib.hid (HX54.out.grown hgr5 (own_ne HI4.out.own HX54.out (by decide)))
                 have HX65 := Lib.hid (HX64.out.grown hgr5 (own_ne HI4.out.own HX64.out (by decide)))
                 have m0 := HX65.out.cell (i := 0) rfl
                 have k0 := HX65.out.free 0
                 clear how5 hb5 hgr5))
            go_roundw
            case rel =>
              refine ⟨q + 1, A5, c5, by omega, by omega, by go_num, Lib.hid ⟨?_, HX55.out.far (p := ⟨b6, 0, none⟩) Hb.out.1 _, HX65.out.set_ 0 _⟩⟩
              rw [HNo.out, rowsV_app]
              exact ⟨own_cell_far HI5.out.own (own_ne HI5.out.own HX65.out (by decide)) _, HI5.out.below.setCell (p := ⟨b6, 0, none⟩) Hb.out.2.2 _, HI5.out.lo, by simpa [World.setCell] using HI5.out.hi⟩
            case measure => simp [intOf]; omega
        · obtain ⟨hq1, hq2⟩ := map_take_all cutO HLx.out hqn hq8 hqlt
          have hI := HI.out
          rw [show (few8 Lx).take q = few8 Lx from hq1] at hI
          have HIz := Lib.hid hI
          have Hq8 : RowKit.Hid (q ≤ 8) := Lib.hid hq8
          clear hI hq1 hq2 HI
          go_upto_region 8 with fail
          go_cut [34] (fun v z => v = .bool false ∧ z = wp)
          case first =>
            by_cases hqn2 : (q : Int) < (nx : Int)
            · have hj2 : decide ((q : Int) < 8) = false := decide_eq_false (fun p => hqlt ⟨by omega, by omega⟩)
              clear hqlt
              go_wp2
              go_meet
              exact ⟨rfl, rfl⟩
            · have hj2 : decide ((q : Int) < (nx : Int)) = false := decide_eq_false hqn2
              clear hqlt
              go_wp2
              go_meet
              exact ⟨rfl, rfl⟩
          case rest =>
            obtain ⟨rfl, hwc⟩ := hcut
            replace hwc := hwc.symm
            subst hwc
            clear hqlt e5 hq8 hqn
            have e5 := HX5.out.cell (i := 4) rfl
            have f5 := HX5.out.free 4
            have e6 := HX6.out.cell (i := 0) rfl
            have HY5 := Lib.hid (HX5.out.set_ 4 (.slice A q c))
            have HIy := Lib.hid (own_cell_far HIz.out.own (i := 4) (own_ne HIz.out.own HX5.out (by decide)) (.slice A q c))
            have HBy := Lib.hid (HIz.out.below.setCell (p := ⟨b5, 4, none⟩) Hb.out.2.1 (.slice A q c))
            have Hlo := Lib.hid (show w.heap.size ≤ wo.heap.size from HO.out.below.size)
            go_upto_region 15 with fail
            obtain ⟨wy, gwy⟩ : ∃ z, wp.setCell ⟨b5, 4, none⟩ (.slice A q c) = z := ⟨_, rfl⟩
            rw [gwy] at HY5 HIy HBy ⊢
            clear gwy e5 f5 e6 HX5 HX6 HIz
            obtain ⟨t, gt⟩ : ∃ t : StT, (hd, (A, q, c, few8 Lx)) = t := ⟨_, rfl⟩
            have hYt : Whole wy b5 30 (stC t) := by rw [← gt]; exact HY5.out
            have HYt := Lib.hid hYt
            have Gt := Lib.hid gt
            have HOy := Lib.hid (HO.out.up HBy.out)
            have HEy : RowKit.Hid (∀ s ∈ Ts, s.2.2.1 ≤ 8 ∧ wy.ownsRow w.heap.size 53 20 (.slice s.2.1 s.2.2.1 s.2.2.2.1) s.2.2.1 (rowsV opCells s.2.2.2.2)) := Lib.hid (fun s hs => ⟨(HE.out s hs).1, own_up (HE.out s hs).2 HBy.out⟩)
            have HIt := Lib.hid (own_lo8 HIy.out Hlo.out)
            clear hYt gt HY5 HIy HO HE
            refine wp_region_lit ?_
            refine wl_read (v := ?_) (some 59) rfl (by rfl) ?_ ?_
            rotate_left
            · go_simp; (try with_reducible rfl)
            simp only [Act.put, stA_, st0_, st1_]
            refine wl_load (some 60) rfl (by rfl) 30 (.tmp 5) rfl b5 rfl 30 (stC t) _ HYt.out Try.underlying30 rfl (by kernel_rfl) ?_
            simp only [Act.put, stA_, st0_, st1_]
            refine wl_buildSlice (some 61) rfl (by rfl) 22 30 1 #[(0, .tmp 60)] rfl Try.underlying22 (stC t).toArray (by kernel_rfl) ?_
            simp only [Act.put, stA_, st0_, st1_]
            have HL4 : RowKit.Hid (RdS (wy.alloc (.cells (stC t).toArray 30)) (wy.alloc (.cells (stC t).toArray 30)).heap.size 5 (some ⟨wy.heap.size, 0, none⟩) 1 1 (rowsV stC [t])) := Lib.hid (by rw [rowsS1]; exact RdS.of_whole8 (Whole.new_ _ _ _) rfl)
            have HO4 := Lib.hid (HOy.out.up (below1 wy (.cells (stC t).toArray 30)))
            have HE4 : RowKit.Hid (∀ s ∈ Ts, s.2.2.1 ≤ 8 ∧ (wy.alloc (.cells (stC t).toArray 30)).ownsRow w.heap.size 53 20 (.slice s.2.1 s.2.2.1 s.2.2.2.1) s.2.2.1 (rowsV opCells s.2.2.2.2)) := Lib.hid (fun s hs => ⟨(HEy.out s hs).1, own_up (HEy.out s hs).2 (below1 wy _)⟩)
            have HI4 := Lib.hid (own_up HIt.out (below1 wy (.cells (stC t).toArray 30)))
            obtain ⟨W4, gW4⟩ : ∃ z, wy.alloc (.cells (stC t).toArray 30) = z := ⟨_, rfl⟩
            obtain ⟨g9, gg9⟩ : ∃ z, wy.heap.size = z := ⟨_, rfl⟩
            rw [gW4] at HL4 HO4 HE4 HI4 ⊢
            rw [gg9] at HL4 ⊢
            clear gW4 gg9 HOy HEy HIt HYt
            go_wp2_with (first
              | (at_builtin
                 refine wpList_push2 rfl (.tmp 59) (.tmp 61) _ rfl _ 30 iS _ 5 56 Try.underlying22 hiS zS0 zS1 zS2 rfl (by decide) _ _ _ rfl HO4.out _ _ _ _ _ rfl HL4.out (rowsV_one stC stC_one [t]) (by unfold maxLen; omega) (by omega) ?_
                 intro v5 W5 how5 hb5 hgr5
                 obtain ⟨A5, c5, rfl, -⟩ := how5.rds
                 have HO5 := Lib.hid how5
                 have HE5 : RowKit.Hid (∀ s ∈ Ts, s.2.2.1 ≤ 8 ∧ W5.ownsRow w.heap.size 53 20 (.slice s.2.1 s.2.2.1 s.2.2.2.1) s.2.2.1 (rowsV opCells s.2.2.2.2)) := Lib.hid (fun s hs => ⟨(HE4.out s hs).1, own_grow (HE4.out s hs).2 HO4.out.own (by decide) hgr5⟩)
                 have HI5 := Lib.hid (own_grow HI4.out HO4.out.own (by decide) hgr5)
                 clear how5 hb5 hgr5))
            go_roundw
            case rel =>
              refine ⟨k + 1, Ts ++ [t], by omega, by omega, by go_num, Lib.hid (by rw [rowsV_app]; exact HO5.out), Lib.hid ?_, Lib.hid (fun s hs => ?_)⟩
              · rw [HNx.out, List.map_append, HT.out, ← Gt.out]
                rfl
              · rcases List.mem_append.1 hs with hs | hs
                · exact HE5.out s hs
                · obtain rfl := List.mem_singleton.1 hs
                  rw [← Gt.out]
                  exact ⟨Hq8.out, HI5.out⟩
            case measure => simp [intOf]; omega
    · obtain ⟨hq1, hq2⟩ := map_take_all (fun s : SD => (s.1, few8 s.2)) Hl.out hkn hk30 hlt
      have hT := HT.out
      rw [show (fewS (Ls.map sdT)).take k = fewS (Ls.map sdT) from hq1] at hT
      have HTz := Lib.hid hT
      have Hk30 : RowKit.Hid (k ≤ 30) := Lib.hid hk30
      have HF8 : RowKit.Hid (∀ s ∈ Ts, s.2.2.1 ≤ 8) := Lib.hid (fun s hs => (HE.out s hs).1)
      have HFw : RowKit.Hid (StW w.heap.size wo (.slice Ac k cc) k Ts) := Lib.hid ⟨HO.out.own, fun s hs => (HE.out s hs).2⟩
      clear hT hq1 hq2 HT HE
      by_cases hl1 : (k : Int) < (n : Int)
      · have hi2 : decide ((k : Int) < 30) = false := decide_eq_false (fun p => hlt ⟨by omega, by omega⟩)
        clear hlt
        go_wp2
        go_ret
        first
        | exact ⟨Ac, cc, Ts, k, rfl, Hk30.out, HTz.out, HFw.out, HF8.out, HO.out.below⟩
        | exact ⟨Ac, cc, Ts, k, rfl, Hk30.out, HTz.out, HFw.out, fun _ _ _ _ _ _ _ _ hs => HF8.out _ hs, HO.out.below⟩
      · have hi2 : decide ((k : Int) < (n : Int)) = false := decide_eq_false hl1
        clear hlt
        go_wp2
        go_ret
        first
        | exact ⟨Ac, cc, Ts, k, rfl, Hk30.out, HTz.out, HFw.out, HF8.out, HO.out.below⟩
        | exact ⟨Ac, cc, Ts, k, rfl, Hk30.out, HTz.out, HFw.out, fun _ _ _ _ _ _ _ _ hs => HF8.out _ hs, HO.out.below⟩
end Go.Proofs.Ytinfbaflkjghhaa
/- Bytes as digits; the builder's WriteByte; the document's digits. -/
namespace Go.Proofs.Ytinfbaflkjghhaa
open Go.RowKit
def hxd (d : Nat) : Nat := if d < 10 then 48 + d else 87 + d
theorem hxd_lt {d : Nat} (h : d < 16) : hxd d < 256 := by unfold hxd; split <;> omega
/-- Bytes as digits, the higher first. -/
def dgs (B : List Nat) : List Nat := B.flatMap (fun b => [hxd (b / 16), hxd (b % 16)])
theorem dgs_len (B : List Nat) : (dgs B).length = 2 * B.length := by
  induction B with
  | nil => rfl
  | cons b B ih => unfold dgs at *; simp [ih]; omega
theorem dgs_lt {B : List Nat} (hb : ∀ b ∈ B, b < 256) : ∀ c ∈ dgs B, c < 256 := fun c hc => by
  obtain ⟨b, hbm, hc⟩ := List.mem_flatMap.1 hc
  have := hb b hbm
  simp only [List.mem_cons, List.not_mem_nil, or_false] at hc
  rcases hc with rfl | rfl
  · exact hxd_lt (by omega)
  · exact hxd_lt (by omega)
theorem dgs_next {B : List Nat} {k b : Nat} (h : B[k]? = some b) : dgs (B.take (k + 1)) = dgs (B.take k) ++ [hxd (b / 16), hxd (b % 16)] := by
  rw [List.take_add_one, h]
  simp [dgs, List.flatMap_append]
theorem hex_at {d : Nat} (h : d < 16) : ({ data := #[48, 49, 50, 51, 52, 53, 54, 55, 56, 57, 97, 98, 99, 100, 101, 102] } : ByteArray)[d]? = some (UInt8.ofNat (hxd d)) := by
  have : d = 0 ∨ d = 1 ∨ d = 2 ∨ d = 3 ∨ d = 4 ∨ d = 5 ∨ d = 6 ∨ d = 7 ∨ d = 8 ∨ d = 9 ∨ d = 10 ∨ d = 11 ∨ d = 12 ∨ d = 13 ∨ d = 14 ∨ d = 15 := by omega
  rcases this with rfl | rfl | rfl | rfl | rfl | rfl | rfl | rfl | rfl | rfl | rfl | rfl | rfl | rfl | rfl | rfl <;> rfl
theorem idx_hex (k : IntKind) (d : Nat) (hd : d < 16) (W : World) : (Instr.index 9 (.string { data := #[48, 49, 50, 51, 52, 53, 54, 55, 56, 57, 97, 98, 99, 100, 101, 102] }) (.int k (d : Int))).run Try.prog W = .ok (.int .u8 (hxd d : Int)) W := by
  simp only [Instr.index, asIntOf, Sem.run_bind, Sem.run_pure, Result.andThen_ok, run_underlying (Try.underlying9)]
  rw [if_pos (by omega), Int.toNat_natCast, hex_at hd]
  simp only [Sem.run_pure]
  have := hxd_lt hd
  congr 3
  simp [Nat.mod_eq_of_lt this]
theorem txt_data (L : List Nat) : (txt L).data.toList = L.map UInt8.ofNat := by
  have := txt_list L
  rwa [ByteArray.toList_eq] at this
theorem ba_ext {a b : ByteArray} (h : a.data.toList = b.data.toList) : a = b := by
  cases a; cases b
  simp only [ByteArray.mk.injEq]
  exact Array.toList_inj.1 h
theorem txt_app (L M : List Nat) : txt L ++ txt M = txt (L ++ M) := ba_ext (by
  rw [txt_data, List.map_append, ← txt_data, ← txt_data]
  simp)
theorem txt_mk (L : List Nat) : (⟨(L.map UInt8.ofNat).toArray⟩ : ByteArray) = txt L := ba_ext (by rw [txt_data])
theorem bytes_rows {L : List Nat} (h : ∀ b ∈ L, b < 256) : Lib.byteCells (L.map UInt8.ofNat) = rowsV f8 L := by
  rw [rowsV_map8]
  unfold Lib.byteCells
  rw [List.map_map]
  refine List.map_congr_left fun b hb => ?_
  have := h b hb
  simp [Nat.mod_eq_of_lt this]
/-- A builder that holds bytes. -/
structure Bld (lo : Nat) (W : World) (g : Nat) (p v : Value) (X : List Nat) : Prop where
  cells : Whole W g 64 [p, v]
  ptr : p = .pointer none ∨ p = .pointer (some ⟨g, 0, none⟩)
  row : W.ownsRow lo 5 1 v X.length (rowsV f8 X)
  lo : lo ≤ g
theorem Bld.bl {lo g : Nat} {W W' : World} {p v : Value} {X : List Nat} (h : Bld lo W g p v X) (hb : Below W.heap.size W W') : Bld lo W' g p v X := ⟨h.cells.bl hb, h.ptr, own_up h.row hb, h.lo⟩
theorem info_bld : (Try.prog.info? 64).map (·.size) = some 2 := by kernel_rfl
set_option maxRecDepth 100000 in
theorem ccheck_any (g : Nat) (p v : Value) (w : World) (h : Whole w g 64 [p, v]) (hp : p = .pointer none ∨ p = .pointer (some ⟨g, 0, none⟩)) :
    Calls Try.prog 49 #[.pointer (some ⟨g, 0, none⟩)] w fun e w' => e = .returned (.tuple #[]) ∧ ((p = .pointer none ∧ w' = w.setCell ⟨g, 0, none⟩ (.pointer (some ⟨g, 0, none⟩))) ∨ (p = .pointer (some ⟨g, 0, none⟩) ∧ w' = w)) := by
  obtain ⟨j, hj, hjs⟩ := Option.map_eq_some_iff.1 info_bld
  have h0 := h.cell (i := 0) rfl
  have hfz := h.free 0
  rcases hp with rfl | rfl
  · have hsh : w.shape? g = some (64, 2) := by unfold Whole at h; simp [World.shape?, h]
    go_enter Try.func49, Try.ntmps49
    go_wp2
    rw [Lib.run_to_unsafe w ⟨g, 0, none⟩ Try.underlying62 Try.underlying113 hj (by rw [hjs]; decide) hsh (Nat.zero_lt_succ 1)]
    simp only [Result.andThen]
    rw [Oper.upon_value]
    go_wp2
    rw [run_callFunc_extern Try.func68 (by kernel_rfl) (by kernel_rfl) (by kernel_rfl) (e := Extern.AbiNoEscape.same) (by kernel_rfl)]
    rw [Lib.run_noEscape]
    simp only [Result.andThen]
    rw [Oper.upon_value]
    go_wp2
    rw [Lib.run_from_unsafe w ⟨g, 0, none⟩ Try.underlying113 Try.underlying62 hj hsh (by kernel_rfl)]
    simp only [Result.andThen]
    rw [Oper.upon_value]
    go_wp2
    go_end0
    refine ⟨rfl, ?_⟩
    simp
  · go_enter Try.func49, Try.ntmps49
    go_wp2
    rw [Lib.run_neq_ptr_same w _ Try.underlying62 hj]
    go_wp2
    go_end0
    refine ⟨rfl, ?_⟩
    simp
set_option maxRecDepth 100000 in
set_option maxHeartbeats 4000000 in
theorem wb_any (lo g : Nat) (p v : Value) (X : List Nat) (b : Nat) (w : World) (h : Bld lo w g p v X) (hn : X.length ≤ 100000000) :
    Calls Try.prog 29 #[.pointer (some ⟨g, 0, none⟩), .int .u8 (b : Int)] w fun e w' => ∃ v', e = .returned .nilIface ∧ Bld lo w' g (.pointer (some ⟨g, 0, none⟩)) v' (X ++ [b]) ∧ Kept (fun i => i = g ∨ some i = v.ownBlock) w w' ∧ (v'.ownBlock = v.ownBlock ∨ ∀ i, v'.ownBlock = some i → w.heap.size ≤ i) := by
  obtain ⟨i0, hi, hz0, hz1, hz2⟩ := info_parts_ info_u8
  have H := Lib.hid h
  clear h
  go_enter Try.func29, Try.ntmps29
  go_wp2_with fail
  refine (ccheck_any g p v w H.out.cells H.out.ptr).mono ?_
  rintro e w1 ⟨rfl, hw⟩
  have hne : some g ≠ v.ownBlock := own_ne_ H.out.row H.out.cells (by decide)
  have h1 : Whole w1 g 64 [.pointer (some ⟨g, 0, none⟩), v] ∧ w1.ownsRow lo 5 1 v X.length (rowsV f8 X) ∧ Kept (fun i => i = g ∨ some i = v.ownBlock) w w1 ∧ w1.heap.size = w.heap.size := by
    rcases hw with ⟨rfl, rfl⟩ | ⟨rfl, rfl⟩
    · exact ⟨H.out.cells.set_ 0 _, own_cell_far H.out.row hne _, Kept.setCell (Kept.refl _ w) (p := ⟨g, 0, none⟩) (.inl (.inl rfl)) _, by simp [World.setCell]⟩
    · exact ⟨H.out.cells, H.out.row, Kept.refl _ _, rfl⟩
  obtain ⟨hc1, hr1, hk1, hs1⟩ := h1
  have hlo1 : lo ≤ w1.heap.size := by have := H.out.lo; have := hc1.lt; omega
  have hr2 := own_up hr1 (below1 w1 (.cells #[.int .u8 (b : Int)] 5))
  have hob := one8 w1 b
  have hc2 := hc1.al (.cells #[.int .u8 (b : Int)] 5)
  have hk2 := hk1.alloc (.cells #[.int .u8 (b : Int)] 5)
  have hs2 : (w1.alloc (.cells #[.int .u8 (b : Int)] 5)).heap.size = w.heap.size + 1 := by simp [hs1]
  have HX0 := H.out.row.1
  obtain ⟨N, gN⟩ : ∃ z, X.length = z := ⟨_, rfl⟩
  rw [gN] at hr2
  have hN : N ≤ 100000000 := by omega
  obtain ⟨v', w3, hrun, hown, hgr, -, hob2⟩ := run_append_own_at (P := Try.prog) (w1.alloc (.cells #[.int .u8 (b : Int)] 5)) lo 23 23 5 i0 _ 1 1 Try.underlying23 hi hz0 hz1 hz2 rfl (by decide) v N _ hr2 ⟨w1.heap.size, 0, none⟩ 1 1 _ hob.len (hob.cell _ rfl) (f8_all _) (by unfold maxLen; omega) (by omega) (by rw [hs2]; omega)
  obtain ⟨Av, cv, rfl, -⟩ := RdS.of_own hown
  rw [← rows8_app] at hown
  have hc3 := hc2.grown hgr hne
  have c1 := hc1.cell (i := 1) rfl
  have d1 := hc3.cell (i := 1) rfl
  have f1 := hc3.free 1
  have hne3 : some g ≠ (Value.slice Av (N + 1) cv).ownBlock := own_ne_ hown hc3 (by decide)
  have HRun := Lib.hid hrun
  have HC : RowKit.Hid (Bld lo (w3.setCell ⟨g, 1, none⟩ (.slice Av (N + 1) cv)) g (.pointer (some ⟨g, 0, none⟩)) (.slice Av (N + 1) cv) (X ++ [b])) := Lib.hid ⟨hc3.set_ 1 _, .inr rfl, by rw [List.length_append, gN]; exact own_cell_far hown hne3 _, H.out.lo⟩
  have HK : RowKit.Hid (Kept (fun i => i = g ∨ some i = v.ownBlock) w (w3.setCell ⟨g, 1, none⟩ (.slice Av (N + 1) cv))) := Lib.hid (Kept.setCell (hk2.trans (kept_grow hgr (fun i hi => .inr hi))) (p := ⟨g, 1, none⟩) (.inl (.inl rfl)) _)
  have HOb : RowKit.Hid ((Value.slice Av (N + 1) cv).ownBlock = v.ownBlock ∨ ∀ i, (Value.slice Av (N + 1) cv).ownBlock = some i → w.heap.size ≤ i) := Lib.hid (hob2.imp id (fun h i hi => by rw [h] at hi; injection hi with hi; omega))
  clear hrun hown hgr hob2 hc3 hne3 hc1 hr1 hk1 hs1 hr2 hob hc2 hk2 hs2 hlo1 HX0 hw hne gN
  go_wp2_with (first
    | (at_builtin
       refine wpList_app rfl (.tmp 11) (.tmp 13) _ rfl rfl rfl HRun.out ?_))
  go_ret
  exact ⟨_, rfl, HC.out, HK.out, HOb.out⟩
end Go.Proofs.Ytinfbaflkjghhaa
