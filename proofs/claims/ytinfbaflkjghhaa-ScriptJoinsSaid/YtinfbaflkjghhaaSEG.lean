/- Several texts in one. -/
import Derived.Test.YtinfbaflkjghhaaSEF
import Derived.Test.YtinfbaflkjghhaaSEE
import Derived.Deep.CutBlock
import Derived.Test.YtinfbaflkjghhaaSEA
import Derived.RangeFuncNested
import Derived.RangeFuncBound
import Derived.RangeFuncCalls
import Derived.RangeFuncLeaves
import Derived.Shelf.Abstract
import Derived.Shelf.RegionOpen
import Derived.WalkKit
import Derived.OwnWalkIn
import Derived.TacticsInMore
import Derived.LoopNIn
import Derived.LoopIn
import Derived.Sort.CutIn
/- Print, and the document's own; the document's example. -/
set_option linter.unusedSimpArgs false
set_option linter.unusedVariables false
namespace Go.Proofs.Ytinfbaflkjghhaa
open Go.RowKit
/-- A step's line, and a script. -/
def lnB (x : SD) : List Nat := dgs (sdB x) ++ [10]
def prB (X : List SD) : List Nat := X.flatMap lnB
def prE : List SD → Int
  | [] => 0
  | x :: X => if sdE x = 0 then prE X else sdE x
def prS (X : List SD) : List Nat := if prE X = 0 then prB X else []
theorem prE_app : ∀ (X Y : List SD), prE X = 0 → prE (X ++ Y) = prE Y
  | [], Y, _ => rfl
  | x :: X, Y, h => by
    have h2 : (if sdE x = 0 then prE X else sdE x) = 0 := h
    show (if sdE x = 0 then prE (X ++ Y) else sdE x) = _
    by_cases hx : sdE x = 0
    · rw [if_pos hx] at h2 ⊢
      exact prE_app X Y h2
    · rw [if_neg hx] at h2
      exact absurd h2 hx
theorem prE_next {X : List SD} {k : Nat} {x : SD} (hx : X[k]? = some x) (h : prE (X.take k) = 0) (h0 : sdE x = 0) : prE (X.take (k + 1)) = 0 := by
  rw [List.take_add_one, hx, prE_app _ _ h]
  show (if sdE x = 0 then prE [] else sdE x) = 0
  rw [if_pos h0]
  rfl
theorem prE_bad {X : List SD} {k : Nat} {x : SD} (hx : X[k]? = some x) (h : prE (X.take k) = 0) (h0 : ¬ sdE x = 0) : prE X = sdE x := by
  have e : X = X.take k ++ (x :: X.drop (k + 1)) := by
    conv => lhs; rw [← List.take_append_drop k X]
    congr 1
    rw [List.drop_eq_getElem_cons (List.getElem?_eq_some_iff.1 hx).1, (List.getElem?_eq_some_iff.1 hx).2]
  rw [e, prE_app _ _ h]
  show (if sdE x = 0 then _ else sdE x) = _
  rw [if_neg h0]
theorem prB_next {X : List SD} {k : Nat} {x : SD} (hx : X[k]? = some x) : prB (X.take (k + 1)) = prB (X.take k) ++ lnB x := by
  rw [List.take_add_one, hx]
  simp [prB, List.flatMap_append]
theorem lnB_lt (x : SD) : ∀ c ∈ lnB x, c < 256 := fun c hc => by
  rcases List.mem_append.1 hc with h | h
  · exact dgs_lt (sdB_lt x) c h
  · obtain rfl := List.mem_singleton.1 h; decide
theorem prB_lt (X : List SD) : ∀ c ∈ prB X, c < 256 := fun c hc => by
  obtain ⟨x, -, hc⟩ := List.mem_flatMap.1 hc
  exact lnB_lt x c hc
theorem lnB_len {x : SD} (h : sdE x = 0) : (lnB x).length ≤ 343 := by
  unfold lnB
  rw [List.length_append, dgs_len]
  have := (sdB_len h).2
  simp only [List.length_singleton]
  omega
theorem prB_len : ∀ (X : List SD), prE X = 0 → (prB X).length ≤ 343 * X.length
  | [], _ => Nat.le_refl _
  | x :: X, h => by
    have h2 : (if sdE x = 0 then prE X else sdE x) = 0 := h
    by_cases hx : sdE x = 0
    · rw [if_pos hx] at h2
      have := prB_len X h2
      have h3 := lnB_len hx
      show (lnB x ++ prB X).length ≤ 343 * (X.length + 1)
      rw [List.length_append]
      omega
    · rw [if_neg hx] at h2
      exact absurd h2 hx
theorem sdP_ok {x : SD} (h : sdE x = 0) : sdP x = sdB x := by unfold sdP; rw [if_pos h]
def GivesPr (w : World) (X : List SD) (e : Ending) (w' : World) : Prop := e = .returned (.tuple #[.string (txt (prS X)), .int .i64 (prE X)]) ∧ Below w.heap.size w w'
theorem and_15 : ∀ b : Nat, b < 256 → bits .and .u8 (b : Int) 15 = ((b % 16 : Nat) : Int) := by
  have h : ∀ b : Fin 256, bits .and .u8 (b.val : Int) 15 = ((b.val % 16 : Nat) : Int) := by decide +kernel
  exact fun b hb => h ⟨b, hb⟩
/-- What stands beside the builder is kept. -/
def NoBl (g : Nat) (v : Value) (A : Option Addr) (n : Nat) : Prop := ∀ a, A = some a → 0 < n → a.block ≠ g ∧ some a.block ≠ v.ownBlock
theorem NoBl.on {g n c : Nat} {v v' : Value} {A : Option Addr} {w w' : World} {xs : List Value} (h : NoBl g v A n) (hr : RdS w w.heap.size 1 A n c xs) (ho : v'.ownBlock = v.ownBlock ∨ ∀ i, v'.ownBlock = some i → w.heap.size ≤ i) : NoBl g v' A n := fun a ha h0 => ⟨(h a ha h0).1, by
  rcases ho with ho | ho
  · rw [ho]; exact (h a ha h0).2
  · intro e
    have h1 := ho _ e.symm
    have h2 := hr.low a ha h0
    omega⟩
theorem NoBl.keep {g n c : Nat} {v : Value} {A : Option Addr} {w w' : World} {xs : List Value} (h : NoBl g v A n) (hr : RdS w w.heap.size 1 A n c xs) (hk : Kept (fun i => i = g ∨ some i = v.ownBlock) w w') : RdS w' w'.heap.size 1 A n c xs :=
  hr.kept_ne hk (fun a ha h0 q => q.elim (h a ha h0).1 (h a ha h0).2)
theorem Bld.below {lo g : Nat} {w w' : World} {p v : Value} {X : List Nat} {w0 : World} (h : Bld lo w g p v X) (hb : Below w0.heap.size w0 w) (hk : Kept (fun i => i = g ∨ some i = v.ownBlock) w w') (hl : w0.heap.size ≤ lo) : Below w0.heap.size w0 w' :=
  Below.trans hb (hk.below hb.size (fun i hi q => by
    rcases q with rfl | q
    · have := h.lo; omega
    · have := (h.row.lt i q.symm).1; omega))
theorem bstr_any (lo g : Nat) (p v : Value) (X : List Nat) (w : World) (h : Bld lo w g p v X) (hx : ∀ b ∈ X, b < 256) :
    Calls Try.prog 30 #[.pointer (some ⟨g, 0, none⟩)] w fun e w' => e = .returned (.string (txt X)) ∧ Below lo w w' := by
  have hrow : w.ownsRow lo 5 1 v (Lib.byteCells (X.map UInt8.ofNat)).length (Lib.byteCells (X.map UInt8.ofNat)) := by
    rw [bytes_rows hx, rows8_len]
    exact h.row
  have hne : v.ownBlock ≠ some g := fun e => own_ne_ h.row h.cells (by decide) e.symm
  have hI : Lib.IsBuilderF 64 5 lo g (Lib.byteCells (X.map UInt8.ofNat)) w := Lib.IsBuilderF.of (h.ptr.imp (fun (e : p = .pointer none) => ⟨h.lo, v, by rw [← e]; exact h.cells, hrow, hne⟩) (fun (e : p = .pointer (some ⟨g, 0, none⟩)) => ⟨h.lo, v, by rw [← e]; exact h.cells, hrow, hne⟩))
  refine (Try.Builder_String_any_k lo g (X.map UInt8.ofNat) w hI (by have := h.lo; have := h.cells.lt; omega)).mono ?_
  rintro e w' ⟨rfl, -, hb, -⟩
  exact ⟨by rw [txt_mk], hb⟩
set_option maxRecDepth 100000 in
set_option maxHeartbeats 4000000 in
theorem print_any (A : Option Addr) (n c : Nat) (Ls : List StT) (w : World) (h : StRd w A n c Ls) (hn : n ≤ 2048) :
    Calls Try.prog 15 #[.slice A n c] w (GivesPr w (Ls.map sdT)) := by
  have H := Lib.hid h
  have Hl := Lib.hid (h.row.rlen stC_len (by decide))
  obtain ⟨X, gX⟩ : ∃ z, Ls.map sdT = z := ⟨_, rfl⟩
  have HXl : RowKit.Hid (X.length = n) := Lib.hid (by rw [← gX, List.length_map]; exact Hl.out)
  have HXat : RowKit.Hid (∀ (k : Nat) (x : StT), Ls[k]? = some x → X[k]? = some (sdT x)) := Lib.hid (fun k x hx => by rw [← gX, List.getElem?_map, hx]; rfl)
  rw [gX]
  have hn48 : decide ((2048 : Int) < (n : Int)) = false := decide_eq_false (by omega)
  have hn48b : decide (2048 < n) = false := decide_eq_false (by omega)
  clear h gX
  go_enter Try.func15, Try.ntmps15
  go_upto_region 5 with fail
  have hW : Whole (w.alloc (.cells #[.pointer none, .slice none 0 0] 64)) w.heap.size 64 [.pointer none, .slice none 0 0] := Whole.new_ _ _ [_, _]
  have hB : Below w.heap.size w (w.alloc (.cells #[.pointer none, .slice none 0 0] 64)) := below1 _ _
  obtain ⟨W0, gW0⟩ : ∃ z, w.alloc (.cells #[.pointer none, .slice none 0 0] 64) = z := ⟨_, rfl⟩
  obtain ⟨g, gg⟩ : ∃ z, w.heap.size = z := ⟨_, rfl⟩
  rw [gW0] at hW hB ⊢
  rw [gg] at hW ⊢
  have HG : RowKit.Hid (w.heap.size = g) := Lib.hid gg
  have HD0 : RowKit.Hid (Bld g W0 g (.pointer none) (.slice none 0 0) (prB (X.take 0))) := Lib.hid ⟨hW, .inl rfl, World.ownsRow_nil _ _ _ _, Nat.le_refl _⟩
  have HB0 : RowKit.Hid (Below w.heap.size w W0) := Lib.hid hB
  clear hW hB gW0 gg
  go_loopw [16] (fun i wr => ∃ (k : Nat) (p v : Value), k ≤ n ∧ i = .int .i64 (k : Int) ∧ RowKit.Hid (Bld g wr g p v (prB (X.take k))) ∧ RowKit.Hid (prE (X.take k) = 0) ∧ RowKit.Hid (Below w.heap.size w wr)) (fun i _ => n - (intOf i).toNat)
  case atStart => exact ⟨0, _, _, Nat.zero_le _, rfl, HD0, Lib.hid rfl, HB0⟩
  case round =>
    clear HD0 HB0
    obtain ⟨k, p, v, hk, rfl, HD, HE, HB⟩ := hrel
    obtain ⟨wo, gwo⟩ : ∃ z, wr = z := ⟨_, rfl⟩
    rw [gwo] at HD HB ⊢
    clear gwo
    by_cases hlt : k < n
    · have hltI : (k : Int) < (n : Int) := by omega
      obtain ⟨x, hx⟩ : ∃ x, Ls[k]? = some x := ⟨_, List.getElem?_eq_getElem (by have := Hl.out; omega)⟩
      have hox := (H.out.each x (List.mem_of_getElem? hx)).bl HB.out
      have hX := HXat.out k x hx
      obtain ⟨bb, off, rfl, hbB, hpl⟩ := (H.out.row.bl HB.out).place stC_len (by decide) (by omega)
      have HHo : RowKit.Hid (RdS (wo.alloc (.cells (stC x).toArray 30)) (wo.alloc (.cells (stC x).toArray 30)).heap.size 20 x.2.1 x.2.2.1 x.2.2.2.1 (rowsV opCells x.2.2.2.2)) := Lib.hid (hox.ops.al _)
      have HPu := Lib.hid (put23_any x (wo.alloc (.cells (stC x).toArray 30)) HHo.out hox.few)
      obtain ⟨⟨k1, k2, k3, k4⟩, Ax, nx, cx, Lx⟩ := x
      have l0 := hpl k _ hx 0 _ rfl
      have l1 := hpl k _ hx 1 _ rfl
      have l2 := hpl k _ hx 2 _ rfl
      have l3 := hpl k _ hx 3 _ rfl
      have l4 := hpl k _ hx 4 _ rfl
      simp only [Addr.add_lit, Nat.add_zero] at l0 l1 l2 l3 l4
      have HX := Lib.hid hX
      have HDa := Lib.hid (HD.out.bl (below1 wo (.cells #[.int .i64 k1, .int .i64 k2, .int .i64 k3, .int .i64 k4, .slice Ax nx cx] 30)))
      have HBa := Lib.hid (bel_al HB.out (.cells #[.int .i64 k1, .int .i64 k2, .int .i64 k3, .int .i64 k4, .slice Ax nx cx] 30))
      obtain ⟨sx, gsx⟩ : ∃ z, sdT ((k1, k2, k3, k4), Ax, nx, cx, Lx) = z := ⟨_, rfl⟩
      rw [gsx] at HX HPu
      clear hx hox hX hpl hbB HD HB HHo gsx
      go_wp2_with fail
      refine (HPu.out).mono ?_
      rintro e w3 ⟨Ap, cp, rfl, hop, hb3⟩
      have HDb := Lib.hid (HDa.out.bl hb3)
      have HBb := Lib.hid (bel_bl HBa.out hb3)
      have hlow := HDa.out.row.lt
      have hgl := HDa.out.cells.lt
      have HNo0 : RowKit.Hid (NoBl g v Ap (sdP sx).length) := Lib.hid (fun a ha h0 => by
        have h1 := (own_lt hop ha).1
        refine ⟨fun e => ?_, fun e => ?_⟩
        · rw [e] at h1; exact absurd hgl (Nat.not_lt.2 h1)
        · exact absurd (hlow a.block e.symm).2 (Nat.not_lt.2 h1))
      have HRb := Lib.hid (own_rds hop)
      clear hop hb3 HDa HBa HPu l0 l1 l2 l3 l4 hlow hgl
      by_cases he : sdE sx = 0
      · have hpx := sdP_ok he
        rw [hpx, he]
        rw [hpx] at HNo0 HRb
        have Hps := Lib.hid (sdB_lt sx)
        have HNx := Lib.hid (prB_next HX.out)
        have HEx := Lib.hid (prE_next HX.out HE.out he)
        have Hln := Lib.hid (lnB_len he)
        have Hpr := Lib.hid (prB_len _ HE.out)
        obtain ⟨P, gP⟩ : ∃ z, sdB sx = z := ⟨_, rfl⟩
        have HLn : RowKit.Hid (lnB sx = dgs P ++ [10]) := Lib.hid (by unfold lnB; rw [gP])
        have hP171 : P.length ≤ 171 := by rw [← gP]; exact (sdB_len he).2
        rw [gP] at HNo0 HRb Hps ⊢
        obtain ⟨m, gm⟩ : ∃ z, P.length = z := ⟨_, rfl⟩
        have Hpl : RowKit.Hid (P.length = m) := Lib.hid gm
        rw [gm] at HNo0 HRb hP171 ⊢
        obtain ⟨Y, gY⟩ : ∃ z, prB (X.take k) = z := ⟨_, rfl⟩
        rw [gY] at HDb HNx Hpr
        have HY7 : RowKit.Hid (Y.length ≤ 343 * 2048) := Lib.hid (by
          have h1 := Hpr.out
          have h2 : (X.take k).length ≤ 2048 := by rw [List.length_take]; omega
          omega)
        clear hpx gP gm gY he Hln Hpr HE
        go_upto_region 11 with fail
        obtain ⟨wi, gwi⟩ : ∃ z, w3 = z := ⟨_, rfl⟩
        rw [gwi] at HDb HBb HRb ⊢
        clear gwi
        have HDc : RowKit.Hid (Bld g wi g p v (Y ++ dgs (P.take 0))) := Lib.hid (by rw [show dgs (P.take 0) = [] from rfl, List.append_nil]; exact HDb.out)
        clear HDb
        go_loopw [30] (fun i wr => ∃ (q : Nat) (p v : Value), q ≤ m ∧ i = .int .i64 (q : Int) ∧ RowKit.Hid (Bld g wr g p v (Y ++ dgs (P.take q))) ∧ RowKit.Hid (RdS wr wr.heap.size 1 Ap m cp (rowsV f8 P)) ∧ RowKit.Hid (NoBl g v Ap m) ∧ RowKit.Hid (Below w.heap.size w wr)) (fun i _ => m - (intOf i).toNat)
        case atStart => exact ⟨0, p, v, Nat.zero_le _, rfl, HDc, HRb, HNo0, HBb⟩
        case round =>
          clear HDc HRb HNo0 HBb
          obtain ⟨q, p, v, hq, rfl, HD, HR, HNo, HB⟩ := hrel
          obtain ⟨wp, gwp⟩ : ∃ z, wr = z := ⟨_, rfl⟩
          rw [gwp] at HD HR HB ⊢
          clear gwp
          by_cases hql : q < m
          · have hqI : (q : Int) < (m : Int) := by omega
            obtain ⟨b, hx⟩ : ∃ b, P[q]? = some b := ⟨_, List.getElem?_eq_getElem (by have := Hpl.out; omega)⟩
            have hb8 : b < 256 := Hps.out b (List.mem_of_getElem? hx)
            have hN := dgs_next hx
            have hd1 : b / 16 < 16 := by omega
            have hd2 : b % 16 < 16 := by omega
            have hi1 := fun W => idx_hex .u8 (b / 16) hd1 W
            have hi2 := fun W => idx_hex .u8 (b % 16) hd2 W
            obtain ⟨h1, gh1⟩ : ∃ z, hxd (b / 16) = z := ⟨_, rfl⟩
            obtain ⟨h2, gh2⟩ : ∃ z, hxd (b % 16) = z := ⟨_, rfl⟩
            rw [gh1] at hN hi1
            rw [gh2] at hN hi2
            obtain ⟨d1, gd1⟩ : ∃ z, b / 16 = z := ⟨_, rfl⟩
            obtain ⟨d2, gd2⟩ : ∃ z, b % 16 = z := ⟨_, rfl⟩
            rw [gd1] at hi1
            rw [gd2] at hi2
            have q1b : (b : Int) / 16 = (d1 : Int) := by omega
            have q2 := and_15 b hb8
            rw [gd2] at q2
            obtain ⟨bb2, off2, hA, hbB, hpl⟩ := byte_at HR.out (by omega)
            subst hA
            have l0 := hpl q b hx
            have HN := Lib.hid hN
            have Hi2 := Lib.hid hi2
            have hYl : (Y ++ dgs (P.take q)).length ≤ 100000000 := by
              rw [List.length_append, dgs_len, List.length_take]
              have := HY7.out
              omega
            have hYl2 : ((Y ++ dgs (P.take q)) ++ [h1]).length ≤ 100000000 := by
              rw [List.length_append, List.length_append, dgs_len, List.length_take]
              have := HY7.out
              simp only [List.length_singleton]
              omega
            clear hpl hbB hN gh1 gh2 gd1 gd2 hd1 hd2 hx hb8 hi2
            go_wp2_with fail
            refine (wb_any g g p v _ h1 wp HD.out hYl).mono ?_
            rintro e w4 ⟨v4, rfl, hd4, hk4, ho4⟩
            have HD4 := Lib.hid hd4
            have HR4 := Lib.hid (HNo.out.keep HR.out hk4)
            have HNo4 := Lib.hid (HNo.out.on (w' := w4) HR.out ho4)
            have HB4 := Lib.hid (HD.out.below HB.out hk4 (Nat.le_of_eq HG.out))
            clear hd4 hk4 ho4 HD HR HNo HB l0 hi1 q1b
            have hi2 := Hi2.out
            go_wp2_with fail
            refine (wb_any g g _ v4 _ h2 w4 HD4.out hYl2).mono ?_
            rintro e w5 ⟨v5, rfl, hd5, hk5, ho5⟩
            have HD5 := Lib.hid hd5
            have HR5 := Lib.hid (HNo4.out.keep HR4.out hk5)
            have HNo5 := Lib.hid (HNo4.out.on (w' := w5) HR4.out ho5)
            have HB5 := Lib.hid (HD4.out.below HB4.out hk5 (Nat.le_of_eq HG.out))
            clear hd5 hk5 ho5 HD4 HR4 HNo4 HB4 hi2 q2
            go_wp2
            go_roundw
            case rel => exact ⟨q + 1, _, v5, by omega, by go_num, Lib.hid (by rw [HN.out]; have := HD5.out; simpa [List.append_assoc] using this), HR5, HNo5, HB5⟩
            case measure => simp [intOf]; omega
          · obtain rfl : m = q := by omega
            have hfull : P.take m = P := List.take_of_length_le (by rw [Hpl.out]; exact Nat.le_refl _)
            have hYl : (Y ++ dgs (P.take m)).length ≤ 100000000 := by
              rw [List.length_append, dgs_len, List.length_take]
              have := HY7.out
              omega
            have HF := Lib.hid hfull
            clear hfull
            go_wp2_with fail
            refine (wb_any g g p v _ 10 wp HD.out hYl).mono ?_
            rintro e w4 ⟨v4, rfl, hd4, hk4, -⟩
            have HB4 := Lib.hid (HD.out.below HB.out hk4 (Nat.le_of_eq HG.out))
            have HD4 : RowKit.Hid (Bld g w4 g (.pointer (some ⟨g, 0, none⟩)) v4 (prB (X.take (k + 1)))) := Lib.hid (by
              rw [HNx.out, HLn.out, ← List.append_assoc]
              rw [HF.out] at hd4
              exact hd4)
            clear hd4 hk4 HD HR HNo HB HNx HF
            go_wp2
            go_roundw
            case rel => exact ⟨k + 1, _, v4, by omega, by go_num, HD4, HEx, HB4⟩
            case measure => simp [intOf]; omega
      · have hbad := prE_bad HX.out HE.out he
        have HP : RowKit.Hid (GivesPr w X (.returned (.tuple #[.string { data := #[] }, .int .i64 (sdE sx)])) w3) := Lib.hid (by
          unfold GivesPr prS
          rw [hbad, if_neg he]
          exact ⟨rfl, HBb.out⟩)
        obtain ⟨e9, ge9⟩ : ∃ z, sdE sx = z := ⟨_, rfl⟩
        rw [ge9] at he HP ⊢
        have hq9 : (e9 != 0) = true := bne_iff_ne.2 he
        clear hbad ge9 he HDb HRb HNo0 HE
        go_wp2
        refine bodyPost_ret (v := .tuple #[.string { data := #[] }, .int .i64 e9]) (by simp [results, Try.results15, go_sem]) rfl ?_
        exact HP.out
    · obtain rfl : n = k := by omega
      have hfull : X.take n = X := List.take_of_length_le (by rw [HXl.out]; exact Nat.le_refl _)
      have hd := HD.out
      have he := HE.out
      rw [hfull] at hd he
      have HP : RowKit.Hid (∀ w4, Below g wo w4 → GivesPr w X (.returned (.tuple #[.string (txt (prB X)), .int .i64 0])) w4) := Lib.hid (fun w4 hb => by
        unfold GivesPr prS
        rw [he, if_pos rfl]
        exact ⟨rfl, HB.out.trans (by rw [HG.out]; exact hb)⟩)
      have HDz := Lib.hid hd
      clear hfull hd he HD HE
      go_wp2_with fail
      refine (bstr_any g g p v (prB X) wo HDz.out (prB_lt X)).mono ?_
      rintro e w4 ⟨rfl, hb4⟩
      have HQ := Lib.hid (HP.out w4 hb4)
      clear hb4 HP HDz
      go_wp2
      refine bodyPost_ret (v := .tuple #[.string (txt (prB X)), .int .i64 0]) (by simp [results, Try.results15, go_sem]) rfl ?_
      exact HQ.out
end Go.Proofs.Ytinfbaflkjghhaa
/- The document's Print; the document's example. -/
namespace Go.Proofs.Ytinfbaflkjghhaa
open Go.RowKit
def rnd0 : List Nat := [48, 48, 48, 48, 48, 48, 48, 48, 48, 48, 48, 48, 48, 48, 48, 98]
theorem round_any (w : World) : Calls Try.prog 19 #[] w fun e w' => e = .returned (.string (txt (rnd0 ++ List.replicate 48 48))) ∧ Below w.heap.size w w' := by
  have HB0 : RowKit.Hid (Below w.heap.size w w) := Lib.hid (Below.refl _ _)
  go_enter Try.func19, Try.ntmps19
  go_upto_region 3 with fail
  have HT0 : RowKit.Hid (({ data := #[48, 48, 48, 48, 48, 48, 48, 48, 48, 48, 48, 48, 48, 48, 48, 98] } : ByteArray) = txt (rnd0 ++ List.replicate 0 48)) := Lib.hid rfl
  go_loopw [1, 2] (fun s i wr => ∃ (k : Nat) (t : ByteArray), k ≤ 48 ∧ s = .string t ∧ i = .int .i64 (k : Int) ∧ RowKit.Hid (t = txt (rnd0 ++ List.replicate k 48)) ∧ RowKit.Hid (Below w.heap.size w wr)) (fun _ i _ => 48 - (intOf i).toNat)
  case atStart => exact ⟨0, _, Nat.zero_le _, rfl, rfl, HT0, HB0⟩
  case round =>
    clear HT0 HB0
    obtain ⟨k, t, hk, rfl, rfl, HT, HB⟩ := hrel
    by_cases hlt : k < 48
    · have hltI : (k : Int) < 48 := by omega
      have HT4 : RowKit.Hid (t ++ { data := #[48] } = txt (rnd0 ++ List.replicate (k + 1) 48)) := Lib.hid (by
        rw [HT.out, show (({ data := #[48] } : ByteArray)) = txt [48] from rfl, txt_app, List.append_assoc, List.replicate_succ'])
      have hts : t.size ≤ 100 := by rw [HT.out, txt_size]; simp [rnd0]; omega
      have hc1 : ¬ (9223372036854775807 : Int) < ((t.size + 1 : Nat) : Int) := by omega
      have hd1 : ¬ 9223372036854775807 < t.size + 1 := by omega
      have he1 : ¬ (9223372036854775807 : Int) < (((t.size : Nat) : Int) + ((1 : Nat) : Int)) := by omega
      clear HT
      go_wp2
      go_roundw
      case rel => exact ⟨k + 1, _, by omega, rfl, by go_num, HT4, HB⟩
      case measure => simp [intOf]; omega
    · obtain rfl : 48 = k := by omega
      go_wp2
      go_ret
      exact ⟨by rw [← HT.out]; rfl, HB.out⟩
theorem shown23_any (w : World) : Calls Try.prog 8 #[] w fun e w' => e = .returned (.bool true) ∧ Below w.heap.size w w' := by
  have hv : prS [((11, 0, 0, 0), [])] = rnd0 ++ List.replicate 48 48 ++ [10] := by decide +kernel
  have he : prE [((11, 0, 0, 0), [])] = 0 := rfl
  have HV := Lib.hid hv
  have hW : Whole (w.alloc (.cells #[.int .i64 11, .int .i64 0, .int .i64 0, .int .i64 0, .slice none 0 0] 30)) w.heap.size 30 [.int .i64 11, .int .i64 0, .int .i64 0, .int .i64 0, .slice none 0 0] := Whole.new_ _ _ [_, _, _, _, _]
  have hS : StRd (w.alloc (.cells #[.int .i64 11, .int .i64 0, .int .i64 0, .int .i64 0, .slice none 0 0] 30)) (some ⟨w.heap.size, 0, none⟩) 1 1 [((11, 0, 0, 0), (none, 0, 0, []))] :=
    ⟨by rw [rowsS1]; exact RdS.of_whole8 hW rfl, fun s hs => by
      obtain rfl := List.mem_singleton.1 hs
      exact ⟨rds_nil _ _ _, by decide, fun o ho => (by cases ho), by unfold In4 In64; simp⟩⟩
  have HP := Lib.hid (print_any (some ⟨w.heap.size, 0, none⟩) 1 1 [((11, 0, 0, 0), (none, 0, 0, []))] _ hS (by decide))
  have HB0 : RowKit.Hid (Below w.heap.size w (w.alloc (.cells #[.int .i64 11, .int .i64 0, .int .i64 0, .int .i64 0, .slice none 0 0] 30))) := Lib.hid (below1 _ _)
  clear hv hW hS he
  go_enter Try.func8, Try.ntmps8
  go_wp2_with fail
  refine HP.out.mono ?_
  rintro e w1 ⟨rfl, hb1⟩
  rw [show ([((11, 0, 0, 0), (none, 0, 0, []))] : List StT).map sdT = [((11, 0, 0, 0), [])] from rfl, HV.out, show prE [((11, 0, 0, 0), [])] = 0 from rfl]
  have HB1 := Lib.hid (bel_bl HB0.out hb1)
  clear hb1 HP HB0
  obtain ⟨t1, gt1⟩ : ∃ z, txt (rnd0 ++ List.replicate 48 48 ++ [10]) = z := ⟨_, rfl⟩
  rw [gt1]
  have G1 := Lib.hid gt1
  clear gt1
  go_wp2_with fail
  refine (round_any w1).mono ?_
  rintro e w2 ⟨rfl, hb2⟩
  have HB2 := Lib.hid (bel_bl HB1.out hb2)
  have HT : RowKit.Hid (txt (rnd0 ++ List.replicate 48 48) ++ { data := #[10] } = t1) := Lib.hid (by
    rw [show (({ data := #[10] } : ByteArray)) = txt [10] from rfl, txt_app]
    exact G1.out)
  obtain ⟨t2, gt2⟩ : ∃ z, txt (rnd0 ++ List.replicate 48 48) = z := ⟨_, rfl⟩
  rw [gt2] at HT ⊢
  have ht := HT.out
  have hts : t2.size ≤ 100 := by rw [← gt2, txt_size]; decide
  have hc1 : ¬ (9223372036854775807 : Int) < ((t2.size + 1 : Nat) : Int) := by omega
  have hd1 : ¬ 9223372036854775807 < t2.size + 1 := by omega
  have he1 : ¬ (9223372036854775807 : Int) < (((t2.size : Nat) : Int) + ((1 : Nat) : Int)) := by omega
  clear gt2 hb2 HB1 G1
  go_wp2
  go_ret
  exact ⟨rfl, HB2.out⟩
end Go.Proofs.Ytinfbaflkjghhaa
/- OpcodeTakes' walk. -/
namespace Go.Proofs.Ytinfbaflkjghhaa
open Go.RowKit
theorem whV_len {B : List Nat} (hb : ∀ b ∈ B, b < 256) : (whV B).length ≤ 255 := by
  have h1 := byte_lt hb
  unfold whV
  split
  · unfold rdV
    rw [edV_len]
    omega
  · exact Nat.zero_le _
end Go.Proofs.Ytinfbaflkjghhaa
/- ScriptSteps. -/
namespace Go.Proofs.Ytinfbaflkjghhaa
open Go.RowKit
theorem whV_txt {B : List Nat} (hb : ∀ b ∈ B, b < 256) : ∀ o ∈ whV B, o.t.size ≤ 255 := fun o ho => by
  unfold whV at ho
  split at ho
  · exact edV_t _ (drop_lt hb 1) o ho
  · cases ho
theorem tkS_ops {B : List Nat} (hb : ∀ b ∈ B, b < 256) : (tkS B).2.length ≤ 255 ∧ ∀ o ∈ (tkS B).2, o.t.size ≤ maxLen := by
  unfold tkS
  split
  · exact ⟨whV_len (drop_lt hb 32), fun o ho => by have := whV_txt (drop_lt hb 32) o ho; unfold maxLen; omega⟩
  · exact ⟨by simp [zS], fun o ho => (by cases ho)⟩
theorem gives_s {w w' : World} {k1 k2 k3 k4 y : Int} {V : List OpT} {e : Ending} (h : GivesS w ((k1, k2, k3, k4), V) y e w') : ∃ A n c, e = .returned (.tuple #[.agg #[.int .i64 k1, .int .i64 k2, .int .i64 k3, .int .i64 k4, .slice A n c], .int .i64 y]) ∧ n = V.length ∧ w'.ownsRow w.heap.size 53 20 (.slice A n c) n (rowsV opCells V) ∧ Below w.heap.size w w' := by
  obtain ⟨A, n, c, h1, h2⟩ := h
  exact ⟨A, n, c, h1, h2⟩
end Go.Proofs.Ytinfbaflkjghhaa
/- Digits read as bytes; the document's digit and line. -/
namespace Go.Proofs.Ytinfbaflkjghhaa
open Go.RowKit
def vD (c : Nat) : Bool := decide (48 ≤ c ∧ c ≤ 57) || decide (97 ≤ c ∧ c ≤ 102)
def dg (c : Nat) : Nat := if 48 ≤ c ∧ c ≤ 57 then c - 48 else if 97 ≤ c ∧ c ≤ 102 then c - 87 else 0
theorem dg_lt (c : Nat) : dg c < 16 := by unfold dg; split; omega; split <;> omega
theorem hxd_dg {c : Nat} (h : vD c = true) : hxd (dg c) = c := by
  unfold vD at h
  rcases Bool.or_eq_true_iff.1 h with h | h
  · have h2 := of_decide_eq_true h
    have e : dg c = c - 48 := by unfold dg; rw [if_pos h2]
    rw [e]
    unfold hxd
    rw [if_pos (by omega)]
    omega
  · have h2 := of_decide_eq_true h
    have e : dg c = c - 87 := by unfold dg; rw [if_neg (by omega), if_pos h2]
    rw [e]
    unfold hxd
    rw [if_neg (by omega)]
    omega
theorem vD_hxd {d : Nat} (h : d < 16) : vD (hxd d) = true := by
  unfold vD hxd
  by_cases h1 : d < 10
  · rw [if_pos h1, decide_eq_true (show 48 ≤ 48 + d ∧ 48 + d ≤ 57 by omega)]; rfl
  · rw [if_neg h1, decide_eq_true (show 97 ≤ 87 + d ∧ 87 + d ≤ 102 by omega)]; simp
theorem dg_hxd {d : Nat} (h : d < 16) : dg (hxd d) = d := by
  unfold dg hxd
  by_cases h1 : d < 10
  · rw [if_pos h1, if_pos (by omega)]; omega
  · rw [if_neg h1, if_neg (by omega), if_pos (by omega)]; omega
/-- The bytes of digits, by twos. -/
def pD : List Nat → List Nat
  | a :: b :: L => (16 * dg a + dg b) :: pD L
  | _ => []
theorem pD_lt : ∀ (l : List Nat), ∀ b ∈ pD l, b < 256
  | [], b, h => by cases h
  | [_], b, h => by cases h
  | x :: y :: L, b, h => by
    rcases List.mem_cons.1 (show b ∈ (16 * dg x + dg y) :: pD L from h) with rfl | h
    · have := dg_lt x
      have := dg_lt y
      omega
    · exact pD_lt L b h
theorem pD_len : ∀ (l : List Nat), (pD l).length = l.length / 2
  | [] => by simp [pD]
  | [_] => by simp [pD]
  | x :: y :: L => by
    show (pD L).length + 1 = (L.length + 2) / 2
    rw [pD_len L]
    omega
theorem pD_dgs : ∀ (B : List Nat), (∀ b ∈ B, b < 256) → pD (dgs B) = B
  | [], _ => rfl
  | b :: B, h => by
    have hb := h b List.mem_cons_self
    show (16 * dg (hxd (b / 16)) + dg (hxd (b % 16))) :: pD (dgs B) = b :: B
    rw [dg_hxd (by omega), dg_hxd (by omega), pD_dgs B (fun x hx => h x (List.mem_cons_of_mem _ hx))]
    congr 1
    omega
def okD (l : List Nat) : Bool := decide (dgs (pD l) = l)
theorem okD_all : ∀ (l : List Nat), l.length % 2 = 0 → (∀ c ∈ l, vD c = true) → dgs (pD l) = l
  | [], _, _ => rfl
  | [_], h, _ => by simp at h
  | x :: y :: L, h, hv => by
    have h1 := hxd_dg (hv x List.mem_cons_self)
    have h2 := hxd_dg (hv y (List.mem_cons_of_mem _ List.mem_cons_self))
    have hx := dg_lt x
    have hy := dg_lt y
    show hxd ((16 * dg x + dg y) / 16) :: hxd ((16 * dg x + dg y) % 16) :: dgs (pD L) = x :: y :: L
    rw [show (16 * dg x + dg y) / 16 = dg x by omega, show (16 * dg x + dg y) % 16 = dg y by omega, h1, h2, okD_all L (by simp only [List.length_cons] at h; omega) (fun c hc => hv c (List.mem_cons_of_mem _ (List.mem_cons_of_mem _ hc)))]
theorem dgs_vD {B : List Nat} (h : ∀ b ∈ B, b < 256) : ∀ c ∈ dgs B, vD c = true := fun c hc => by
  obtain ⟨b, hb, hc⟩ := List.mem_flatMap.1 hc
  have := h b hb
  simp only [List.mem_cons, List.not_mem_nil, or_false] at hc
  rcases hc with rfl | rfl
  · exact vD_hxd (by omega)
  · exact vD_hxd (by omega)
theorem okD_yes {l : List Nat} (h : l.length % 2 = 0) (hv : ∀ c ∈ l, vD c = true) : okD l = true := decide_eq_true (okD_all l h hv)
theorem okD_odd {l : List Nat} (h : ¬ l.length % 2 = 0) : okD l = false := decide_eq_false (fun e => h (by rw [← e, dgs_len]; omega))
theorem okD_bad {l : List Nat} {c : Nat} (hc : c ∈ l) (h : vD c = false) : okD l = false := decide_eq_false (fun e => by
  have := dgs_vD (pD_lt l) c (by rw [e]; exact hc)
  rw [h] at this
  cases this)
theorem pD_next : ∀ (q : Nat) (l : List Nat) {a b : Nat}, l[2 * q]? = some a → l[2 * q + 1]? = some b → pD (l.take (2 * (q + 1))) = pD (l.take (2 * q)) ++ [16 * dg a + dg b]
  | 0, l, a, b, ha, hb => by
    match l, ha, hb with
    | x :: y :: L, ha, hb =>
      obtain rfl : x = a := by simpa using ha
      obtain rfl : y = b := by simpa using hb
      rfl
    | [_], _, hb => simp at hb
    | [], ha, _ => simp at ha
  | q + 1, l, a, b, ha, hb => by
    match l, ha, hb with
    | x :: y :: L, ha, hb =>
      have ih := pD_next q L (a := a) (b := b) (by rw [show 2 * (q + 1) = 2 * q + 1 + 1 by omega] at ha; simpa using ha) (by rw [show 2 * (q + 1) + 1 = 2 * q + 1 + 1 + 1 by omega] at hb; simpa using hb)
      rw [show 2 * (q + 1 + 1) = 2 * (q + 1) + 1 + 1 by omega, show 2 * (q + 1) = 2 * q + 1 + 1 by omega]
      simp only [List.take_succ_cons, pD]
      rw [show 2 * q + 1 + 1 = 2 * (q + 1) by omega, ih]
      rfl
    | [_], _, hb => simp at hb
    | [], ha, _ => simp at ha
def lnO (l : List Nat) : Bool := okD l && okS (pD l)
def lnV (l : List Nat) : SD := if okD l = true then tkS (pD l) else zS
def lnE (l : List Nat) : Int := if lnO l = true then 0 else 240
theorem ln_no {l : List Nat} (h : okD l = false) : lnV l = zS ∧ lnE l = 240 ∧ lnO l = false := by
  unfold lnV lnE lnO
  rw [h]
  exact ⟨rfl, rfl, rfl⟩
theorem ln_yes {l : List Nat} (h : okD l = true) : lnV l = tkS (pD l) ∧ lnE l = tkSE (pD l) ∧ lnO l = okS (pD l) := by
  unfold lnV lnE lnO tkSE
  rw [h]
  exact ⟨rfl, rfl, rfl⟩
theorem idx_txt {l : List Nat} {i c : Nat} (hb : ∀ b ∈ l, b < 256) (h : l[i]? = some c) (W : World) : (Instr.index 9 (.string (txt l)) (.int .i64 (i : Int))).run Try.prog W = .ok (.int .u8 (c : Int)) W := by
  have hc := hb c (List.mem_of_getElem? h)
  have e : (txt l)[i]? = some (UInt8.ofNat c) := by
    have h2 : (txt l).data.toList[i]? = some (UInt8.ofNat c) := by rw [txt_data, List.getElem?_map, h]; rfl
    obtain ⟨h3, h4⟩ := List.getElem?_eq_some_iff.1 h2
    have h5 : i < (txt l).size := by simpa using h3
    rw [getElem?_pos (txt l) i h5]
    congr 1
  simp only [Instr.index, asIntOf, Sem.run_bind, Sem.run_pure, Result.andThen_ok, run_underlying (Try.underlying9)]
  rw [if_pos (by omega), Int.toNat_natCast, e]
  simp only [Sem.run_pure]
  congr 3
  simp [Nat.mod_eq_of_lt hc]
end Go.Proofs.Ytinfbaflkjghhaa
/- A line read. -/
namespace Go.Proofs.Ytinfbaflkjghhaa
open Go.RowKit
def GivesRd (w : World) (x : SD) (ok : Bool) (e : Ending) (w' : World) : Prop :=
  ∃ A n c, e = .returned (.tuple #[.agg (stC (x.1, (A, n, c, x.2))).toArray, .bool ok]) ∧ n = x.2.length ∧ w'.ownsRow w.heap.size 53 20 (.slice A n c) n (rowsV opCells x.2) ∧ Below w.heap.size w w'
def hv (c : Nat) : Int := if vD c = true then (dg c : Int) else -1
theorem idxb_all : ∀ c : Nat, c < 256 → Lib.indexByte (({ data := #[48, 49, 50, 51, 52, 53, 54, 55, 56, 57, 97, 98, 99, 100, 101, 102] } : ByteArray).data.toList) ((c : Int).toNat.toUInt8) = hv c := by
  have h : ∀ c : Fin 256, Lib.indexByte (({ data := #[48, 49, 50, 51, 52, 53, 54, 55, 56, 57, 97, 98, 99, 100, 101, 102] } : ByteArray).data.toList) ((c.val : Int).toNat.toUInt8) = hv c.val := by decide +kernel
  exact fun c hc => h ⟨c, hc⟩
theorem idxb_any (c : Nat) (hc : c < 256) (w : World) : Calls Try.prog 56 #[.string { data := #[48, 49, 50, 51, 52, 53, 54, 55, 56, 57, 97, 98, 99, 100, 101, 102] }, .int .u8 (c : Int)] w fun e w' => e = .returned (.int .i64 (hv c)) ∧ Below w.heap.size w w' := by
  refine (Try.strings_IndexByte { data := #[48, 49, 50, 51, 52, 53, 54, 55, 56, 57, 97, 98, 99, 100, 101, 102] } (c : Int) w).mono ?_
  rintro e w' ⟨rfl, rfl⟩
  exact ⟨by rw [idxb_all c hc], Below.refl _ _⟩
theorem or_16 : ∀ a b : Nat, a < 16 → b < 16 → bits .or .i64 ((16 * a : Nat) : Int) (b : Int) = ((16 * a + b : Nat) : Int) := by
  have h : ∀ a b : Fin 16, bits .or .i64 ((16 * a.val : Nat) : Int) (b.val : Int) = ((16 * a.val + b.val : Nat) : Int) := by decide +kernel
  exact fun a b ha hb => h ⟨a, ha⟩ ⟨b, hb⟩
theorem cut_yes (l : List Nat) : Lib.hasSuffix (txt (l ++ [10])).data.toList ({ data := #[10] } : ByteArray).data.toList = true ∧ (⟨(Lib.trimSuffix (txt (l ++ [10])).data.toList ({ data := #[10] } : ByteArray).data.toList).toArray⟩ : ByteArray) = txt l := by
  have e : (txt (l ++ [10])).data.toList = l.map UInt8.ofNat ++ [10] := by rw [txt_data, List.map_append]; rfl
  have e2 : ({ data := #[10] } : ByteArray).data.toList = [10] := rfl
  have h : Lib.hasSuffix (l.map UInt8.ofNat ++ [10]) [10] = true := by
    unfold Lib.hasSuffix
    rw [List.isSuffixOf_iff_suffix]
    exact List.suffix_append _ _
  rw [e, e2]
  refine ⟨h, ?_⟩
  unfold Lib.trimSuffix
  rw [h, if_pos rfl]
  have h9 : ∀ q : List UInt8, (q ++ [10]).take ((q ++ [10]).length - [(10 : UInt8)].length) = q := by
    intro q
    rw [List.length_append, Nat.add_sub_cancel]
    exact List.take_left
  exact (congrArg (fun q : List UInt8 => (⟨q.toArray⟩ : ByteArray)) (h9 _)).trans (txt_mk l)
theorem cut_no {l : List Nat} (hb : ∀ b ∈ l, b < 256) (h : ¬ 10 ∈ l) : Lib.hasSuffix (txt l).data.toList ({ data := #[10] } : ByteArray).data.toList = false ∧ (⟨(Lib.trimSuffix (txt l).data.toList ({ data := #[10] } : ByteArray).data.toList).toArray⟩ : ByteArray) = txt l := by
  have e2 : ({ data := #[10] } : ByteArray).data.toList = [10] := rfl
  have h2 : Lib.hasSuffix (l.map UInt8.ofNat) [10] = false := by
    cases hq : Lib.hasSuffix (l.map UInt8.ofNat) [10] with
    | false => rfl
    | true =>
      unfold Lib.hasSuffix at hq
      rw [List.isSuffixOf_iff_suffix] at hq
      obtain ⟨t, ht⟩ := hq
      have hm : (10 : UInt8) ∈ l.map UInt8.ofNat := by rw [← ht]; simp
      obtain ⟨c, hc, h3⟩ := List.mem_map.1 hm
      have := ofNat_inj (a := c) (b := 10) (hb c hc) (by decide) h3
      exact absurd (this ▸ hc) h
  rw [txt_data, e2]
  refine ⟨h2, ?_⟩
  unfold Lib.trimSuffix
  rw [h2]
  simp only [Bool.false_eq_true, if_false]
  exact txt_mk l
set_option maxRecDepth 100000 in
set_option maxHeartbeats 4000000 in
theorem read_no (l : List Nat) (w : World) (hn : l.length ≤ 100000) (hb : ∀ b ∈ l, b < 256) (h10 : ¬ 10 ∈ l) :
    Calls Try.prog 34 #[.string (txt l)] w (GivesRd w zS false) := by
  have hc := cut_no hb h10
  have hsz : (txt l).size ≤ 9223372036854775807 := by rw [txt_size]; omega
  obtain ⟨t, gt⟩ : ∃ z, txt l = z := ⟨_, rfl⟩
  rw [gt] at hc hsz ⊢
  have HCt := Lib.hid (fun W => Try.strings_CutSuffix t { data := #[10] } W hsz)
  have HC := Lib.hid hc
  obtain ⟨X, gX⟩ : ∃ z, zS = z := ⟨_, rfl⟩
  obtain ⟨K, gK⟩ : ∃ z, false = z := ⟨_, rfl⟩
  rw [gX, gK]
  have HXK := Lib.hid (And.intro gX.symm gK.symm)
  clear hc hsz gt gX gK
  have hW : Whole (w.alloc (.cells #[.int .i64 0, .int .i64 0, .int .i64 0, .int .i64 0, .slice none 0 0] 30)) w.heap.size 30 [.int .i64 0, .int .i64 0, .int .i64 0, .int .i64 0, .slice none 0 0] := Whole.new_ _ _ [_, _, _, _, _]
  have hB := below1 w (.cells #[.int .i64 0, .int .i64 0, .int .i64 0, .int .i64 0, .slice none 0 0] 30)
  go_enter Try.func34, Try.ntmps34
  go_wp2_with fail
  obtain ⟨W0, gW0⟩ : ∃ z, w.alloc (.cells #[.int .i64 0, .int .i64 0, .int .i64 0, .int .i64 0, .slice none 0 0] 30) = z := ⟨_, rfl⟩
  obtain ⟨b2, gb2⟩ : ∃ z, w.heap.size = z := ⟨_, rfl⟩
  have Lb2 : RowKit.Hid (w.heap.size ≤ b2) := Lib.hid (Nat.le_of_eq gb2)
  rw [gW0] at hW hB ⊢
  rw [gb2] at hW ⊢
  have HW := Lib.hid hW
  have HB := Lib.hid hB
  clear hW hB gW0 gb2
  refine (HCt.out W0).mono ?_
  rintro e w1 ⟨rfl, rfl⟩
  rw [HC.out.1, HC.out.2]
  clear HC HCt
  have f0 := HW.out.free 0
  have f1 := HW.out.free 1
  have f2 := HW.out.free 2
  have f3 := HW.out.free 3
  have f4 := HW.out.free 4
  have k0 := HW.out.cell (i := 0) rfl
  have k1 := HW.out.cell (i := 1) rfl
  have k2 := HW.out.cell (i := 2) rfl
  have k3 := HW.out.cell (i := 3) rfl
  have k4 := HW.out.cell (i := 4) rfl
  have HY := Lib.hid (((((HW.out.set_ 0 (.int .i64 0)).set_ 1 (.int .i64 0)).set_ 2 (.int .i64 0)).set_ 3 (.int .i64 0)).set_ 4 (.slice none 0 0))
  have HP : RowKit.Hid (GivesRd w X K (.returned (.tuple #[.agg #[.int .i64 0, .int .i64 0, .int .i64 0, .int .i64 0, .slice none 0 0], .bool false])) (((((w1.setCell ⟨b2, 0, none⟩ (.int .i64 0)).setCell ⟨b2, 1, none⟩ (.int .i64 0)).setCell ⟨b2, 2, none⟩ (.int .i64 0)).setCell ⟨b2, 3, none⟩ (.int .i64 0)).setCell ⟨b2, 4, none⟩ (.slice none 0 0))) := Lib.hid (by
    rw [HXK.out.1, HXK.out.2]
    exact ⟨none, 0, 0, rfl, rfl, World.ownsRow_nil _ _ _ _, (((((HB.out.setCell (p := ⟨b2, 0, none⟩) Lb2.out (.int .i64 0)).setCell (p := ⟨b2, 1, none⟩) Lb2.out (.int .i64 0)).setCell (p := ⟨b2, 2, none⟩) Lb2.out (.int .i64 0)).setCell (p := ⟨b2, 3, none⟩) Lb2.out (.int .i64 0)).setCell (p := ⟨b2, 4, none⟩) Lb2.out (.slice none 0 0))⟩)
  clear HW HB HXK
  go_wp2
  exact ret_whole2 rfl b2 rfl rfl HY.out Try.underlying30 rfl (by kernel_rfl) rfl HP.out
set_option maxRecDepth 100000 in
set_option maxHeartbeats 4000000 in
theorem read_nl (l : List Nat) (w : World) (hn : l.length ≤ 100000) (hb : ∀ b ∈ l, b < 256) :
    Calls Try.prog 34 #[.string (txt (l ++ [10]))] w (GivesRd w (lnV l) (lnO l)) := by
  have hc := cut_yes l
  have hsz : (txt (l ++ [10])).size ≤ 9223372036854775807 := by rw [txt_size, List.length_append]; simp; omega
  obtain ⟨t', gt'⟩ : ∃ z, txt (l ++ [10]) = z := ⟨_, rfl⟩
  rw [gt'] at hc hsz ⊢
  have HCt := Lib.hid (fun W => Try.strings_CutSuffix t' { data := #[10] } W hsz)
  obtain ⟨n, gn⟩ : ∃ z, l.length = z := ⟨_, rfl⟩
  have Hl := Lib.hid gn
  have Hb := Lib.hid hb
  have hts : (txt l).size = n := by rw [txt_size]; exact gn
  have hIx : ∀ (i c : Nat), l[i]? = some c → ∀ W, (Instr.index 9 (.string (txt l)) (.int .i64 (i : Int))).run Try.prog W = .ok (.int .u8 (c : Int)) W := fun i c h W => idx_txt hb h W
  obtain ⟨t, gt⟩ : ∃ z, txt l = z := ⟨_, rfl⟩
  rw [gt] at hts hIx hc
  have HC := Lib.hid hc
  have Ht := Lib.hid hts
  have HIx := Lib.hid hIx
  rw [gn] at hn
  obtain ⟨X, gX⟩ : ∃ z, lnV l = z := ⟨_, rfl⟩
  obtain ⟨K, gK⟩ : ∃ z, lnO l = z := ⟨_, rfl⟩
  rw [gX, gK]
  have HXK := Lib.hid (And.intro gX gK)
  clear hc hsz gt gt' gn hb hts hIx gX gK
  have hW : Whole (w.alloc (.cells #[.int .i64 0, .int .i64 0, .int .i64 0, .int .i64 0, .slice none 0 0] 30)) w.heap.size 30 [.int .i64 0, .int .i64 0, .int .i64 0, .int .i64 0, .slice none 0 0] := Whole.new_ _ _ [_, _, _, _, _]
  have hB := below1 w (.cells #[.int .i64 0, .int .i64 0, .int .i64 0, .int .i64 0, .slice none 0 0] 30)
  go_enter Try.func34, Try.ntmps34
  go_wp2_with fail
  obtain ⟨W0, gW0⟩ : ∃ z, w.alloc (.cells #[.int .i64 0, .int .i64 0, .int .i64 0, .int .i64 0, .slice none 0 0] 30) = z := ⟨_, rfl⟩
  obtain ⟨b2, gb2⟩ : ∃ z, w.heap.size = z := ⟨_, rfl⟩
  have Lb2 : RowKit.Hid (w.heap.size ≤ b2) := Lib.hid (Nat.le_of_eq gb2)
  rw [gW0] at hW hB ⊢
  rw [gb2] at hW ⊢
  have HW := Lib.hid hW
  have HB := Lib.hid hB
  clear hW hB gW0 gb2
  refine (HCt.out W0).mono ?_
  rintro e w1 ⟨rfl, rfl⟩
  rw [HC.out.1, HC.out.2]
  clear HC HCt
  by_cases hev : n % 2 = 0
  · obtain ⟨h, gh⟩ : ∃ h, n = 2 * h := ⟨n / 2, by omega⟩
    have hts := Ht.out
    have hz : ((t.size : Int).tmod 2 != 0) = false := by
      rw [hts, Int.tmod_eq_emod_of_nonneg (by omega), show (n : Int) % 2 = 0 by omega]; rfl
    have hz2 : ((t.size : Int) % 2 != 0) = false := by
      rw [hts, show (n : Int) % 2 = 0 by omega]; rfl
    have Hh := Lib.hid gh
    clear gh hts hev
    go_upto_region 6 with fail
    clear hz hz2
    have HO0 : RowKit.Hid (Ow w1 w1.heap.size 5 1 (.slice none 0 0) 0 (rowsV f8 (pD (l.take (2 * 0)))) w1) := Lib.hid (Ow.nil_ (Below.refl _ _) (Nat.le_refl _) (Nat.le_refl _))
    go_loopw [5, 6] (fun v i wr => ∃ (k m : Nat) (A1 : Option Addr) (c1 : Nat), 2 * k ≤ n ∧ m = k ∧ v = .slice A1 m c1 ∧ i = .int .i64 ((2 * k : Nat) : Int) ∧ RowKit.Hid (∀ c ∈ l.take (2 * k), vD c = true) ∧ RowKit.Hid (Ow w1 w1.heap.size 5 1 (.slice A1 m c1) m (rowsV f8 (pD (l.take (2 * k)))) wr)) (fun _ i _ => n + 2 - (intOf i).toNat)
    case atStart => exact ⟨0, 0, none, 0, Nat.zero_le _, rfl, rfl, rfl, Lib.hid (fun c hc => by cases hc), HO0⟩
    case round =>
      clear HO0
      obtain ⟨k, m, A1, c1, hk, hm, rfl, rfl, HV, HO⟩ := hrel
      obtain ⟨wo, gwo⟩ : ∃ z, wr = z := ⟨_, rfl⟩
      rw [gwo] at HO ⊢
      clear gwo
      obtain ⟨i, gi⟩ : ∃ z, 2 * k = z := ⟨_, rfl⟩
      rw [gi] at hk HV HO ⊢
      have hts := Ht.out
      have hpar := Hh.out
      by_cases hlt : i < n
      · have hlt1 : i + 1 < n := by omega
        obtain ⟨i1, gi1⟩ : ∃ z, i + 1 = z := ⟨_, rfl⟩
        have e1 : IntKind.i64.wrap ((i : Int) + 1) = (i1 : Int) := by rw [show (i : Int) + 1 = (i1 : Int) by omega]; exact IntWalk.i64_in _ (by omega)
        have hltI : (i : Int) < (t.size : Int) := by omega
        obtain ⟨a, ha⟩ : ∃ a, l[i]? = some a := ⟨_, List.getElem?_eq_getElem (by have := Hl.out; omega)⟩
        obtain ⟨b, hb⟩ : ∃ b, l[i1]? = some b := ⟨_, List.getElem?_eq_getElem (by have := Hl.out; omega)⟩
        have hN := pD_next k l (a := a) (b := b) (by rw [gi]; exact ha) (by rw [gi, gi1]; exact hb)
        have ha8 := Hb.out a (List.mem_of_getElem? ha)
        have hb8 := Hb.out b (List.mem_of_getElem? hb)
        have Hma := Lib.hid (And.intro (List.mem_of_getElem? ha) (List.mem_of_getElem? hb))
        have hx1 := HIx.out i a ha
        have hx2 := HIx.out i1 b hb
        have HI1 := Lib.hid (fun W => idxb_any a ha8 W)
        have HI2 := Lib.hid (fun W => idxb_any b hb8 W)
        have htk : l.take (i + 2) = l.take i ++ [a, b] := by
          rw [show i + 2 = (i + 1) + 1 by omega, List.take_add_one, List.take_add_one, ha, gi1, hb]
          simp
        have Htk := Lib.hid htk
        have hav : hv a = if vD a = true then (dg a : Int) else -1 := rfl
        have hbv : hv b = if vD b = true then (dg b : Int) else -1 := rfl
        obtain ⟨p1, gp1⟩ : ∃ z, hv a = z := ⟨_, rfl⟩
        obtain ⟨p2, gp2⟩ : ∃ z, hv b = z := ⟨_, rfl⟩
        rw [gp1] at HI1 hav
        rw [gp2] at HI2 hbv
        have Hav := Lib.hid hav
        have Hbv := Lib.hid hbv
        have HN := Lib.hid hN
        have Hk := Lib.hid (show 2 * (k + 1) ≤ n ∧ i + 2 = 2 * (k + 1) ∧ 2 * (k + 1) = i + 2 by omega)
        have Hm := Lib.hid (show m + 1 = k + 1 ∧ m ≤ 100000 by omega)
        have da := dg_lt a
        have db := dg_lt b
        clear ha hb hN ha8 hb8 htk gp1 gp2 hav hbv hm hts hpar gi1
        go_upto_region 8 with fail
        refine wp_region_reg (Nil_) (by kernel_rfl) ?_
        refine opR_ 0 31 (v := ?_) ?_ ?_; rotate_left
        · intro w' hw'; go_simp; (try with_reducible rfl)
        simp only [st0_, st1_]
        refine opR_ 1 32 (v := ?_) ?_ ?_; rotate_left
        · intro w' hw'; go_simp; (try with_reducible rfl)
        simp only [st0_, st1_]
        refine opR_ 2 33 (v := ?_) ?_ ?_; rotate_left
        · intro w' hw'; go_simp; (try with_reducible rfl)
        simp only [st0_, st1_]
        refine opX_ 3 34 ?_
        apply Exists.intro
        apply And.intro
        · apply yr_call; rfl; rotate_left; intro w' hw'; exact HI1.out w'; intro w'; go_simp
        simp only [st0_, st1_]
        refine opR_ 4 35 (v := ?_) ?_ ?_; rotate_left
        · intro w' hw'; go_simp; (try with_reducible rfl)
        simp only [st0_, st1_]
        refine opR_ 5 36 (v := ?_) ?_ ?_; rotate_left
        · intro w' hw'; go_simp; (try with_reducible rfl)
        simp only [st0_, st1_]
        refine opR_ 6 37 (v := ?_) ?_ ?_; rotate_left
        · intro w' hw'; go_simp; (try with_reducible rfl)
        simp only [st0_, st1_]
        refine opR_ 7 38 (v := ?_) ?_ ?_; rotate_left
        · intro w' hw'; go_simp; (try with_reducible rfl)
        simp only [st0_, st1_]
        refine opX_ 8 39 ?_
        apply Exists.intro
        apply And.intro
        · apply yr_call; rfl; rotate_left; intro w' hw'; exact HI2.out w'; intro w'; go_simp
        simp only [st0_, st1_]
        refine opR_ 9 7 (v := ?_) ?_ ?_; rotate_left
        · intro w' hw'; go_simp; (try with_reducible rfl)
        simp only [st0_, st1_]
        refine opR_ 10 8 (v := ?_) ?_ ?_; rotate_left
        · intro w' hw'; go_simp; (try with_reducible rfl)
        simp only [st0_, st1_]
        refine wpR_done (by kernel_rfl) ?_ _
        intro W3 hw3
        have hw4 := bel_bl (bel_dr (Below.refl wo.heap.size wo)) hw3
        have HO3 := Lib.hid (HO.out.up hw4)
        have HW3 := Lib.hid ((HW.out.bl HO.out.below).bl hw4)
        have HB3 := Lib.hid (bel_bl (bel_bl HB.out HO.out.below) hw4)
        clear hw3 hw4 HO hx1 hx2 HI1 HI2 e1 hltI
        cases hva : vD a with
        | false =>
          obtain rfl : p1 = -1 := by have := Hav.out; rw [hva] at this; simpa using this
          have hXK := ln_no (okD_bad Hma.out.1 hva)
          have HX2 : RowKit.Hid (X = zS ∧ K = false) := Lib.hid ⟨HXK.out.1.symm.trans hXK.1, HXK.out.2.symm.trans hXK.2.2⟩
          clear hXK hva
          have f0 := HW3.out.free 0
          have f1 := HW3.out.free 1
          have f2 := HW3.out.free 2
          have f3 := HW3.out.free 3
          have f4 := HW3.out.free 4
          have k0 := HW3.out.cell (i := 0) rfl
          have k1 := HW3.out.cell (i := 1) rfl
          have k2 := HW3.out.cell (i := 2) rfl
          have k3 := HW3.out.cell (i := 3) rfl
          have k4 := HW3.out.cell (i := 4) rfl
          have HY := Lib.hid (((((HW3.out.set_ 0 (.int .i64 0)).set_ 1 (.int .i64 0)).set_ 2 (.int .i64 0)).set_ 3 (.int .i64 0)).set_ 4 (.slice none 0 0))
          have HP : RowKit.Hid (GivesRd w X K (.returned (.tuple #[.agg #[.int .i64 0, .int .i64 0, .int .i64 0, .int .i64 0, .slice none 0 0], .bool false])) (((((W3.setCell ⟨b2, 0, none⟩ (.int .i64 0)).setCell ⟨b2, 1, none⟩ (.int .i64 0)).setCell ⟨b2, 2, none⟩ (.int .i64 0)).setCell ⟨b2, 3, none⟩ (.int .i64 0)).setCell ⟨b2, 4, none⟩ (.slice none 0 0))) := Lib.hid (by
            rw [HX2.out.1, HX2.out.2]
            exact ⟨none, 0, 0, rfl, rfl, World.ownsRow_nil _ _ _ _, (((((HB3.out.setCell (p := ⟨b2, 0, none⟩) Lb2.out (.int .i64 0)).setCell (p := ⟨b2, 1, none⟩) Lb2.out (.int .i64 0)).setCell (p := ⟨b2, 2, none⟩) Lb2.out (.int .i64 0)).setCell (p := ⟨b2, 3, none⟩) Lb2.out (.int .i64 0)).setCell (p := ⟨b2, 4, none⟩) Lb2.out (.slice none 0 0))⟩)
          clear HW3 HB3 HO3 HXK HX2
          go_wp2
          exact ret_whole2 rfl b2 rfl rfl HY.out Try.underlying30 rfl (by kernel_rfl) rfl HP.out
        | true =>
          have hp1 : p1 = (dg a : Int) := by have := Hav.out; rw [hva] at this; simpa using this
          cases hvb : vD b with
          | false =>
            obtain rfl : p2 = -1 := by have := Hbv.out; rw [hvb] at this; simpa using this
            have hXK := ln_no (okD_bad Hma.out.2 hvb)
            have HX2 : RowKit.Hid (X = zS ∧ K = false) := Lib.hid ⟨HXK.out.1.symm.trans hXK.1, HXK.out.2.symm.trans hXK.2.2⟩
            have hp0 : ¬ p1 < 0 := by rw [hp1]; omega
            clear hXK hva hvb hp1
            have f0 := HW3.out.free 0
            have f1 := HW3.out.free 1
            have f2 := HW3.out.free 2
            have f3 := HW3.out.free 3
            have f4 := HW3.out.free 4
            have k0 := HW3.out.cell (i := 0) rfl
            have k1 := HW3.out.cell (i := 1) rfl
            have k2 := HW3.out.cell (i := 2) rfl
            have k3 := HW3.out.cell (i := 3) rfl
            have k4 := HW3.out.cell (i := 4) rfl
            have HY := Lib.hid (((((HW3.out.set_ 0 (.int .i64 0)).set_ 1 (.int .i64 0)).set_ 2 (.int .i64 0)).set_ 3 (.int .i64 0)).set_ 4 (.slice none 0 0))
            have HP : RowKit.Hid (GivesRd w X K (.returned (.tuple #[.agg #[.int .i64 0, .int .i64 0, .int .i64 0, .int .i64 0, .slice none 0 0], .bool false])) (((((W3.setCell ⟨b2, 0, none⟩ (.int .i64 0)).setCell ⟨b2, 1, none⟩ (.int .i64 0)).setCell ⟨b2, 2, none⟩ (.int .i64 0)).setCell ⟨b2, 3, none⟩ (.int .i64 0)).setCell ⟨b2, 4, none⟩ (.slice none 0 0))) := Lib.hid (by
              rw [HX2.out.1, HX2.out.2]
              exact ⟨none, 0, 0, rfl, rfl, World.ownsRow_nil _ _ _ _, (((((HB3.out.setCell (p := ⟨b2, 0, none⟩) Lb2.out (.int .i64 0)).setCell (p := ⟨b2, 1, none⟩) Lb2.out (.int .i64 0)).setCell (p := ⟨b2, 2, none⟩) Lb2.out (.int .i64 0)).setCell (p := ⟨b2, 3, none⟩) Lb2.out (.int .i64 0)).setCell (p := ⟨b2, 4, none⟩) Lb2.out (.slice none 0 0))⟩)
            clear HW3 HB3 HO3 HXK HX2
            go_wp2
            exact ret_whole2 rfl b2 rfl rfl HY.out Try.underlying30 rfl (by kernel_rfl) rfl HP.out
          | true =>
            have hp2 : p2 = (dg b : Int) := by have := Hbv.out; rw [hvb] at this; simpa using this
            have HV3 : RowKit.Hid (∀ c ∈ l.take (2 * (k + 1)), vD c = true) := Lib.hid (fun c hc => by
              rw [Hk.out.2.2, Htk.out] at hc
              rcases List.mem_append.1 hc with hc | hc
              · exact HV.out c hc
              · simp only [List.mem_cons, List.not_mem_nil, or_false] at hc
                rcases hc with rfl | rfl
                · exact hva
                · exact hvb)
            have hor := or_16 (dg a) (dg b) da db
            have hN := HN.out
            obtain ⟨d1, gd1⟩ : ∃ z, dg a = z := ⟨_, rfl⟩
            obtain ⟨d2, gd2⟩ : ∃ z, dg b = z := ⟨_, rfl⟩
            rw [gd1] at hor hN hp1 da
            rw [gd2] at hor hN hp2 db
            obtain ⟨s1, gs1⟩ : ∃ z, 16 * d1 = z := ⟨_, rfl⟩
            obtain ⟨v, gv⟩ : ∃ z, s1 + d2 = z := ⟨_, rfl⟩
            rw [gs1, gv] at hor hN
            have q0 : ¬ (d1 : Int) < 0 := by omega
            have q1 : ¬ (d2 : Int) < 0 := by omega
            have q2 : IntKind.i64.wrap ((d1 : Int) * 16) = (s1 : Int) := by rw [show (d1 : Int) * 16 = (s1 : Int) by omega]; exact IntWalk.i64_in _ (by omega)
            have q3 : IntKind.u8.wrap (v : Int) = (v : Int) := by rw [IntKind.wrap_u8]; omega
            rw [gi] at hN
            have HN2 := Lib.hid hN
            subst hp1 hp2
            obtain ⟨A8, c8, w8, hrun8, ho8, -⟩ := app8 23 (HO3.out.up (below1 W3 (.cells #[.int .u8 (v : Int)] 5))) (one8 W3 v) (by have := Hm.out.2; omega)
            have HO8 := Lib.hid ho8
            clear ho8 hN gd1 gd2 gs1 gv hva hvb HO3 HW3 HB3 HV da db hlt hlt1 gi
            go_upto_region 7 with (first
              | (at_builtin
                 refine wl_run (some 54) rfl (by rfl) (exec_append (by rfl) (by rfl) (by rfl) hrun8) ?_
                 clear hrun8))
            clear q0 q1 q2 q3 hor
            obtain ⟨m1, gm1⟩ : ∃ z, m + 1 = z := ⟨_, rfl⟩
            have Hm1 : RowKit.Hid (m1 = k + 1) := Lib.hid (gm1.symm.trans Hm.out.1)
            have hO9 := HO8.out
            rw [gm1, ← HN2.out] at hO9
            rw [gm1]
            have HO9 := Lib.hid hO9
            clear hO9 gm1 HO8 HN2
            go_wp2
            go_roundw
            case rel => exact ⟨k + 1, m1, A8, c8, Hk.out.1, Hm1.out, rfl, by rw [← Hk.out.2.1]; go_num, HV3, HO9⟩
            case measure => have := Hk.out; simp [intOf]; omega
      · obtain rfl : n = i := by omega
        have hfull : l.take n = l := List.take_of_length_le (by rw [Hl.out]; exact Nat.le_refl _)
        have ho := HO.out
        have hvv := HV.out
        rw [hfull] at ho hvv
        have hok := okD_yes (l := l) (by rw [Hl.out]; omega) hvv
        have hyes := ln_yes hok
        have hml : (pD l).length = m := by rw [pD_len, Hl.out]; omega
        have HT := Lib.hid (take23_any A1 m c1 (pD l) wo hml (own_rds ho.own) (by omega) (pD_lt l))
        have HW3 := Lib.hid (HW.out.bl ho.below)
        have HB3 := Lib.hid (bel_bl HB.out ho.below)
        have HVX : RowKit.Hid (X = tkS (pD l) ∧ K = okS (pD l)) := Lib.hid ⟨HXK.out.1.symm.trans hyes.1, HXK.out.2.symm.trans hyes.2.2⟩
        have HEr : RowKit.Hid (tkSE (pD l) = if okS (pD l) = true then 0 else 240) := Lib.hid rfl
        obtain ⟨⟨⟨x1, x2, x3, x4⟩, V⟩, gx⟩ : ∃ z, tkS (pD l) = z := ⟨_, rfl⟩
        obtain ⟨y, gy⟩ : ∃ z, tkSE (pD l) = z := ⟨_, rfl⟩
        obtain ⟨ok, gok⟩ : ∃ z, okS (pD l) = z := ⟨_, rfl⟩
        rw [gx, gy] at HT
        rw [gx, gok] at HVX
        rw [gy, gok] at HEr
        have hnl : ¬ (n : Int) < (t.size : Int) := by omega
        clear hfull ho hvv hok hyes hml gx gy gok hk hm hts hpar HO HV HXK gi
        go_wp2_with fail
        refine HT.out.mono ?_
        intro e w4 hg
        obtain ⟨A4, n4, c4, rfl, hn4, ho4, hb4⟩ := gives_s hg
        have hlt2 := HW3.out.lt
        have hne : some b2 ≠ (Value.slice A4 n4 c4).ownBlock := fun e => by have := (ho4.lt b2 e.symm).1; omega
        have hW4 := (HW3.out.bl hb4).al (.cells #[.int .i64 x1, .int .i64 x2, .int .i64 x3, .int .i64 x4, .slice A4 n4 c4] 30)
        have hB4 := bel_al (bel_bl HB3.out hb4) (.cells #[.int .i64 x1, .int .i64 x2, .int .i64 x3, .int .i64 x4, .slice A4 n4 c4] 30)
        have hO4 := own_up ho4 (below1 w4 (.cells #[.int .i64 x1, .int .i64 x2, .int .i64 x3, .int .i64 x4, .slice A4 n4 c4] 30))
        have hZ4 : Whole (w4.alloc (.cells #[.int .i64 x1, .int .i64 x2, .int .i64 x3, .int .i64 x4, .slice A4 n4 c4] 30)) w4.heap.size 30 [.int .i64 x1, .int .i64 x2, .int .i64 x3, .int .i64 x4, .slice A4 n4 c4] := Whole.new_ _ _ [_, _, _, _, _]
        have Hn4 := Lib.hid hn4
        have Hlo := Lib.hid HB3.out.size
        clear hg hn4 ho4 hb4 hlt2 HT HW3 HB3
        go_upto_region 13 with fail
        obtain ⟨W6, gW6⟩ : ∃ z, w4.alloc (.cells #[.int .i64 x1, .int .i64 x2, .int .i64 x3, .int .i64 x4, .slice A4 n4 c4] 30) = z := ⟨_, rfl⟩
        obtain ⟨b9, gb9⟩ : ∃ z, w4.heap.size = z := ⟨_, rfl⟩
        rw [gW6] at hW4 hB4 hO4 hZ4 ⊢
        rw [gb9] at hZ4 ⊢
        have HW4 := Lib.hid hW4
        have z0 := hZ4.cell (i := 0) rfl
        have z1 := hZ4.cell (i := 1) rfl
        have z2 := hZ4.cell (i := 2) rfl
        have z3 := hZ4.cell (i := 3) rfl
        have z4 := hZ4.cell (i := 4) rfl
        have HY := Lib.hid (((((HW4.out.set_ 0 (.int .i64 x1)).set_ 1 (.int .i64 x2)).set_ 2 (.int .i64 x3)).set_ 3 (.int .i64 x4)).set_ 4 (.slice A4 n4 c4))
        have HP : RowKit.Hid (GivesRd w X K (.returned (.tuple #[.agg #[.int .i64 x1, .int .i64 x2, .int .i64 x3, .int .i64 x4, .slice A4 n4 c4], .bool ok])) (((((W6.setCell ⟨b2, 0, none⟩ (.int .i64 x1)).setCell ⟨b2, 1, none⟩ (.int .i64 x2)).setCell ⟨b2, 2, none⟩ (.int .i64 x3)).setCell ⟨b2, 3, none⟩ (.int .i64 x4)).setCell ⟨b2, 4, none⟩ (.slice A4 n4 c4))) := Lib.hid (by
          rw [HVX.out.1, HVX.out.2]
          exact ⟨A4, n4, c4, rfl, Hn4.out, own_lo8 (own_cell_far (own_cell_far (own_cell_far (own_cell_far (own_cell_far hO4 (i := 0) hne (.int .i64 x1)) (i := 1) hne (.int .i64 x2)) (i := 2) hne (.int .i64 x3)) (i := 3) hne (.int .i64 x4)) (i := 4) hne (.slice A4 n4 c4)) Hlo.out, ((((((Lib.hid hB4).out.setCell (p := ⟨b2, 0, none⟩) Lb2.out (.int .i64 x1)).setCell (p := ⟨b2, 1, none⟩) Lb2.out (.int .i64 x2)).setCell (p := ⟨b2, 2, none⟩) Lb2.out (.int .i64 x3)).setCell (p := ⟨b2, 3, none⟩) Lb2.out (.int .i64 x4)).setCell (p := ⟨b2, 4, none⟩) Lb2.out (.slice A4 n4 c4))⟩)
        have f0 := HW4.out.free 0
        have f1 := HW4.out.free 1
        have f2 := HW4.out.free 2
        have f3 := HW4.out.free 3
        have f4 := HW4.out.free 4
        have k0 := HW4.out.cell (i := 0) rfl
        have k1 := HW4.out.cell (i := 1) rfl
        have k2 := HW4.out.cell (i := 2) rfl
        have k3 := HW4.out.cell (i := 3) rfl
        have k4 := HW4.out.cell (i := 4) rfl
        clear gW6 gb9 hW4 hB4 hO4 hZ4 hne HW4
        cases ok with
        | true =>
          obtain rfl : y = 0 := by have := HEr.out; simpa using this
          go_wp2
          exact ret_whole2 rfl b2 rfl rfl HY.out Try.underlying30 rfl (by kernel_rfl) rfl HP.out
        | false =>
          obtain rfl : y = 240 := by have := HEr.out; simpa using this
          go_wp2
          exact ret_whole2 rfl b2 rfl rfl HY.out Try.underlying30 rfl (by kernel_rfl) rfl HP.out
  · have hXK := ln_no (okD_odd (l := l) (by rw [Hl.out]; exact hev))
    have HX2 : RowKit.Hid (X = zS ∧ K = false) := Lib.hid ⟨HXK.out.1.symm.trans hXK.1, HXK.out.2.symm.trans hXK.2.2⟩
    have hts := Ht.out
    have hz : ((t.size : Int).tmod 2 != 0) = true := by
      rw [hts, Int.tmod_eq_emod_of_nonneg (by omega), show (n : Int) % 2 = 1 by omega]; rfl
    have hz2 : ((t.size : Int) % 2 != 0) = true := by
      rw [hts, show (n : Int) % 2 = 1 by omega]; rfl
    clear hXK hev hts
    have f0 := HW.out.free 0
    have f1 := HW.out.free 1
    have f2 := HW.out.free 2
    have f3 := HW.out.free 3
    have f4 := HW.out.free 4
    have k0 := HW.out.cell (i := 0) rfl
    have k1 := HW.out.cell (i := 1) rfl
    have k2 := HW.out.cell (i := 2) rfl
    have k3 := HW.out.cell (i := 3) rfl
    have k4 := HW.out.cell (i := 4) rfl
    have HY := Lib.hid (((((HW.out.set_ 0 (.int .i64 0)).set_ 1 (.int .i64 0)).set_ 2 (.int .i64 0)).set_ 3 (.int .i64 0)).set_ 4 (.slice none 0 0))
    have HP : RowKit.Hid (GivesRd w X K (.returned (.tuple #[.agg #[.int .i64 0, .int .i64 0, .int .i64 0, .int .i64 0, .slice none 0 0], .bool false])) (((((w1.setCell ⟨b2, 0, none⟩ (.int .i64 0)).setCell ⟨b2, 1, none⟩ (.int .i64 0)).setCell ⟨b2, 2, none⟩ (.int .i64 0)).setCell ⟨b2, 3, none⟩ (.int .i64 0)).setCell ⟨b2, 4, none⟩ (.slice none 0 0))) := Lib.hid (by
      rw [HX2.out.1, HX2.out.2]
      exact ⟨none, 0, 0, rfl, rfl, World.ownsRow_nil _ _ _ _, (((((HB.out.setCell (p := ⟨b2, 0, none⟩) Lb2.out (.int .i64 0)).setCell (p := ⟨b2, 1, none⟩) Lb2.out (.int .i64 0)).setCell (p := ⟨b2, 2, none⟩) Lb2.out (.int .i64 0)).setCell (p := ⟨b2, 3, none⟩) Lb2.out (.int .i64 0)).setCell (p := ⟨b2, 4, none⟩) Lb2.out (.slice none 0 0))⟩)
    clear HW HB HXK HX2
    go_wp2
    exact ret_whole2 rfl b2 rfl rfl HY.out Try.underlying30 rfl (by kernel_rfl) rfl HP.out
end Go.Proofs.Ytinfbaflkjghhaa
/- The lines of a text; the library's iterator over them. -/
namespace Go.Proofs.Ytinfbaflkjghhaa
open Go.RowKit
attribute [local go_sem] Oper.semAt_some
/-- The lines of a text, each with its newline. -/
def lns : List Nat → List Nat → List (List Nat)
  | cur, [] => if cur = [] then [] else [cur]
  | cur, c :: t => if c = 10 then (cur ++ [10]) :: lns [] t else lns (cur ++ [c]) t
theorem lns_cut (t : List Nat) : ∀ (a : List Nat) (cur : List Nat), ¬ 10 ∈ a → lns cur (a ++ 10 :: t) = (cur ++ a ++ [10]) :: lns [] t
  | [], cur, _ => by simp [lns]
  | c :: a, cur, h => by
    have hc : c ≠ 10 := fun e => h (by rw [e]; simp)
    rw [List.cons_append, lns, if_neg hc, lns_cut t a _ (fun e => h (by simp [e]))]
    simp
theorem lns_end : ∀ (a : List Nat) (cur : List Nat), ¬ 10 ∈ a → lns cur a = if cur ++ a = [] then [] else [cur ++ a]
  | [], cur, _ => by simp [lns]
  | c :: a, cur, h => by
    have hc : c ≠ 10 := fun e => h (by rw [e]; simp)
    rw [lns, if_neg hc, lns_end a _ (fun e => h (by simp [e]))]
    simp
theorem cut_ten (l : List Nat) : 10 ∈ l → ∃ a t, l = a ++ 10 :: t ∧ ¬ 10 ∈ a := by
  induction l with
  | nil => intro h; cases h
  | cons c l ih =>
    intro h
    by_cases hc : c = 10
    · exact ⟨[], l, by rw [hc]; rfl, by simp⟩
    · obtain ⟨a, t, e, hn⟩ := ih (by rcases List.mem_cons.1 h with e | e; exact absurd e.symm hc; exact e)
      exact ⟨c :: a, t, by rw [e]; rfl, fun e => by rcases List.mem_cons.1 e with e | e; exact hc e.symm; exact hn e⟩
theorem ten_ne {c : Nat} (hc : c < 256) (h : c ≠ 10) : (UInt8.ofNat c == 10) = false := by
  cases hq : UInt8.ofNat c == 10 with
  | false => rfl
  | true => exact absurd (ofNat_inj (a := c) (b := 10) hc (by decide) (by simpa using hq)) h
theorem idx_none : ∀ l : List Nat, (∀ b ∈ l, b < 256) → ¬ 10 ∈ l → Lib.indexByte (l.map UInt8.ofNat) 10 = -1
  | [], _, _ => rfl
  | c :: l, hb, h => by
    have hc : c ≠ 10 := fun e => h (by rw [e]; simp)
    rw [List.map_cons, Lib.indexByte, ten_ne (hb c (by simp)) hc, idx_none l (fun b h => hb b (by simp [h])) (fun e => h (by simp [e]))]
    rfl
theorem idx_some (t : List Nat) : ∀ a : List Nat, (∀ b ∈ a, b < 256) → ¬ 10 ∈ a → Lib.indexByte ((a ++ 10 :: t).map UInt8.ofNat) 10 = a.length
  | [], _, _ => rfl
  | c :: a, hb, h => by
    have hc : c ≠ 10 := fun e => h (by rw [e]; simp)
    have ih := idx_some t a (fun b h => hb b (by simp [h])) (fun e => h (by simp [e]))
    rw [List.cons_append, List.map_cons, Lib.indexByte, ten_ne (hb c (by simp)) hc, ih]
    have h1 : ((a.length : Int) == -1) = false := by
      cases hq : ((a.length : Int) == -1) with
      | false => rfl
      | true => simp at hq
    rw [h1, List.length_cons]
    simp
theorem txt_ext (l : List Nat) (i j : Nat) : (txt l).extract i j = txt ((l.take j).drop i) := ba_ext (by
  rw [ByteArray.data_extract, Array.toList_extract, txt_data, txt_data]
  rw [List.extract_eq_take_drop, List.map_drop, List.map_take, List.drop_take])
theorem txt_head (a t : List Nat) : (txt (a ++ 10 :: t)).extract 0 (a.length + 1) = txt (a ++ [10]) := by
  rw [txt_ext, List.drop_zero]
  congr 1
  rw [List.take_append, List.take_of_length_le (by omega), show a.length + 1 - a.length = 1 by omega]
  rfl
theorem txt_tail (a t : List Nat) : (txt (a ++ 10 :: t)).extract (a.length + 1) (txt (a ++ 10 :: t)).size = txt t := by
  rw [txt_ext, txt_size, List.take_length, List.drop_append, List.drop_of_length_le (by omega), show a.length + 1 - a.length = 1 by omega]
  rfl
theorem exec_strHigh {P : Program} {ev : Operand → Value} {o : Oper} {w : World} (t : TypeId) (x hi : Operand) (ho : o.op = .slice t x none (some hi) none) (hu : P.underlying t = some .string)
    {s : ByteArray} {k : Nat} (hx : ev x = .string s) (hk : ev hi = .int .i64 (k : Int)) (hkc : k ≤ s.size) : (execOp ev o).run P w = .ok (.value (.string (s.extract 0 k))) w := by
  have h1 : (Instr.slice t (.string s) none (some (.int .i64 (k : Int))) none).run P w = .ok (.string (s.extract 0 k)) w := by
    have := run_slice_string_h w t s hu .i64 (k : Int) (by omega) (by omega)
    simpa using this
  unfold execOp
  simp only [ho, Option.map_none, Option.map_some, hx, hk, Sem.run_bind, Sem.run_pure, Result.andThen_ok]
  rw [run_sliceAt_string w _ _ _ _ _ hu, h1]
  rfl
theorem exec_strLow {P : Program} {ev : Operand → Value} {o : Oper} {w : World} (t : TypeId) (x lo : Operand) (ho : o.op = .slice t x (some lo) none none) (hu : P.underlying t = some .string)
    {s : ByteArray} {k : Nat} (hx : ev x = .string s) (hk : ev lo = .int .i64 (k : Int)) (hkc : k ≤ s.size) : (execOp ev o).run P w = .ok (.value (.string (s.extract k s.size))) w := by
  have h1 : (Instr.slice t (.string s) (some (.int .i64 (k : Int))) none none).run P w = .ok (.string (s.extract k s.size)) w := by
    have := run_slice_string_l w t s hu .i64 (k : Int) (by omega) (by omega)
    simpa using this
  unfold execOp
  simp only [ho, Option.map_none, Option.map_some, hx, hk, Sem.run_bind, Sem.run_pure, Result.andThen_ok]
  rw [run_sliceAt_string w _ _ _ _ _ hu, h1]
  rfl
theorem AbS.bel {T : Nat → Prop} {J : World → Prop} (h : AbS T J) {w w' : World} (hj : J w) (hb : Below w.heap.size w w') : J w' :=
  h w w' none hj ⟨hb.os, hb.tape, hb.output, hb.size, fun k hk _ => hb.block k hk⟩ (fun _ e => by cases e)
theorem KpS.whole {K : Nat → Prop} {W W' : World} (h : KpS K W W') {g : Nat} {t : TypeId} {cs : List Value} (hw : Whole W g t cs) (hk : K g) : Whole W' g t cs :=
  hw.at_ (h.same g hw.lt hk)
/-- How much is left. -/
def lftS (b : Nat) (W : World) : Nat := match W.cell? ⟨b, 0, none⟩ with | some (.string s) => s.size | _ => 0
theorem lftS_eq {W : World} {b : Nat} {t : TypeId} {s : ByteArray} (h : Whole W b t [.string s]) : lftS b W = s.size := by
  unfold lftS; rw [h.cell (i := 0) rfl]
set_option maxRecDepth 100000 in
set_option maxHeartbeats 4000000 in
theorem lines_any (l : List Nat) (w : World) : Calls Try.prog 54 #[.string (txt l)] w fun e w' => e = .returned (.func (.func 70) #[] #[.pointer (some ⟨w.heap.size, 0, none⟩)]) ∧ w' = w.alloc (.cells #[.string (txt l)] 9) := by
  obtain ⟨t, gt⟩ : ∃ z, txt l = z := ⟨_, rfl⟩
  rw [gt]
  clear gt
  go_enter Try.func54, Try.ntmps54
  go_wp2
  go_ret
  exact ⟨rfl, rfl⟩
set_option maxRecDepth 100000 in
set_option maxHeartbeats 4000000 in
theorem lines_its (bs : Nat) (l : List Nat) (hb : ∀ b ∈ l, b < 256) (hl : l.length ≤ 1000000) (K T : Nat → Prop) (W : World) (hK : K bs) (hT : T bs) (hTs : ∀ i, T i → i < W.heap.size) (h1 : Whole W bs 9 [.string (txt l)]) :
    ItS Try.prog 70 #[.pointer (some ⟨bs, 0, none⟩)] (fun _ x => #[.string (txt x)]) K T (lns [] l) W := by
  intro q J Jx hJ hJx hY h0
  refine callsIn_wide.2 ?_
  show Calls Try.prog 70 #[.func (.yield q) #[] #[], .pointer (some ⟨bs, 0, none⟩)] W _
  obtain ⟨LL, gLL⟩ : ∃ z, lns [] l = z := ⟨_, rfl⟩
  rw [gLL] at hY ⊢
  have HF0 : RowKit.Hid (LL = [] ++ lns [] l ∧ (∀ b ∈ l, b < 256) ∧ l.length ≤ 1000000) := Lib.hid ⟨gLL.symm, hb, hl⟩
  have HW := Lib.hid h1
  have HJ := Lib.hid h0
  have HTs := Lib.hid hTs
  have HKb := Lib.hid hK
  have HTb := Lib.hid hT
  have HJc := Lib.hid hJ
  have HJxc := Lib.hid hJx
  have hlt := h1.lt
  have HY : RowKit.Hid (∀ pre x W1, J pre W1 → pre ++ [x] <+: LL → W.heap.size ≤ W1.heap.size → (∀ i, T i → i < W1.heap.size) → YieldAt Fence.wide 0 Try.prog q #[.string (txt x)] W1 fun e W' => (e = .returned (.bool true) ∧ J (pre ++ [x]) W' ∧ KpS K W1 W') ∨ (e = .returned (.bool false) ∧ Jx (pre ++ [x]) W' ∧ KpS K W1 W')) := Lib.hid hY
  clear gLL hb hl h1 h0 hK hT hTs hJ hJx hY
  have HSz : RowKit.Hid (W.heap.size ≤ W.heap.size) := Lib.hid (Nat.le_refl _)
  go_enter Try.func70, Try.ntmps70
  go_wp2
  go_loopw [] (fun wr => ∃ (pre : List (List Nat)) (rest : List Nat), RowKit.Hid (LL = pre ++ lns [] rest ∧ (∀ b ∈ rest, b < 256) ∧ rest.length ≤ 1000000) ∧ RowKit.Hid (J pre wr ∧ W.heap.size ≤ wr.heap.size) ∧ RowKit.Hid (Whole wr bs 9 [.string (txt rest)])) (fun wr => lftS bs wr)
  case atStart => exact ⟨[], l, HF0, Lib.hid ⟨HJ.out, Nat.le_refl _⟩, HW⟩
  case round =>
    clear HF0 HJ HW
    obtain ⟨pre, rest, HF, HJ0, HW⟩ := hrel
    have HJ : RowKit.Hid (J pre wr) := Lib.hid HJ0.out.1
    have HSw : RowKit.Hid (W.heap.size ≤ wr.heap.size) := Lib.hid HJ0.out.2
    obtain ⟨wo, gwo⟩ : ∃ z, wr = z := ⟨_, rfl⟩
    rw [gwo] at HJ HSw HW ⊢
    clear gwo HJ0
    obtain ⟨t, gt⟩ : ∃ z, txt rest = z := ⟨_, rfl⟩
    have hts : t.size = rest.length := by rw [← gt]; exact txt_size _
    rw [gt] at HW
    have c0 := HW.out.cell (i := 0) rfl
    have f0 := HW.out.free 0
    by_cases hr : rest = []
    · have hz : t.size = 0 := by rw [hts, hr]; rfl
      have HE : RowKit.Hid (LL = pre) := Lib.hid (by rw [HF.out.1, hr]; simp [lns])
      have hnl : ¬ (0 : Int) < (t.size : Int) := by omega
      clear hts hr
      go_wp2
      go_end0
      exact ⟨⟨_, rfl⟩, .inl (by rw [HE.out]; exact HJ.out)⟩
    · have hz : 0 < t.size := by rw [hts]; exact List.length_pos_iff.2 hr
      have hzI : (0 : Int) < (t.size : Int) := by omega
      have hidx : ∀ W, Calls Try.prog 56 #[.string t, .int .u8 10] W fun e w' => e = .returned (.int .i64 (Lib.indexByte (rest.map UInt8.ofNat) 10)) ∧ w' = W := fun W => by
        refine (Try.strings_IndexByte t 10 W).mono ?_
        rintro e w' ⟨rfl, rfl⟩
        rw [← gt, txt_data]
        exact ⟨rfl, rfl⟩
      by_cases h10 : 10 ∈ rest
      · obtain ⟨a, t', he, hna⟩ := cut_ten rest h10
        have hba : ∀ b ∈ a, b < 256 := fun b h => HF.out.2.1 b (by rw [he]; simp [h])
        rw [he, idx_some t' a hba hna] at hidx
        have HI := Lib.hid hidx
        obtain ⟨k, gk⟩ : ∃ z, a.length = z := ⟨_, rfl⟩
        obtain ⟨k1, gk1⟩ : ∃ z, k + 1 = z := ⟨_, rfl⟩
        have hk1 : k1 ≤ t.size := by rw [hts, he, List.length_append, List.length_cons]; omega
        have hkm : k ≤ 1000000 := by have := HF.out.2.2; rw [he, List.length_append] at this; omega
        have e1 : IntKind.i64.wrap ((k : Int) + 1) = (k1 : Int) := by rw [show (k : Int) + 1 = (k1 : Int) by omega]; exact IntWalk.i64_in _ (by omega)
        obtain ⟨X, gX⟩ : ∃ z, a ++ [10] = z := ⟨_, rfl⟩
        obtain ⟨rest', gr⟩ : ∃ z, t' = z := ⟨_, rfl⟩
        have hv1 : t.extract 0 k1 = txt X := by rw [← gt, he, ← gk1, ← gk, ← gX]; exact txt_head a t'
        have hv2 : t.extract k1 t.size = txt rest' := by rw [← gt, he, ← gk1, ← gk, ← gr]; exact txt_tail a t'
        have HFx : RowKit.Hid (LL = (pre ++ [X]) ++ lns [] rest' ∧ (∀ b ∈ rest', b < 256) ∧ rest'.length ≤ 1000000) := Lib.hid ⟨by rw [HF.out.1, he, lns_cut t' a [] hna, ← gX, ← gr]; simp, fun b h => HF.out.2.1 b (by rw [he, gr]; simp [h]), by have := HF.out.2.2; rw [he, List.length_append, List.length_cons, gr] at this; omega⟩
        have HMx : RowKit.Hid ((txt rest').size < t.size) := Lib.hid (by rw [txt_size, hts, he, List.length_append, List.length_cons, gr]; omega)
        have HPre : RowKit.Hid (pre ++ [X] <+: LL) := Lib.hid ⟨lns [] rest', HFx.out.1.symm⟩
        obtain ⟨u, gu⟩ : ∃ z, txt X = z := ⟨_, rfl⟩
        obtain ⟨v2, gv2⟩ : ∃ z, txt rest' = z := ⟨_, rfl⟩
        rw [gu] at hv1
        rw [gv2] at hv2
        have Gu := Lib.hid gu
        have Gv := Lib.hid gv2
        rw [gk] at HI
        have hk0 : (0 : Int) ≤ (k : Int) := by omega
        clear hidx he hna hba hr h10 gt hts gX gr gu gv2 gk gk1 hkm HF
        go_upto_region 4 with (go_at_call 56; refine (HI.out _).mono ?_; rintro e w' ⟨rfl, hww⟩; rw [hww]; clear hww w')
        have ld0 : ∀ w', Kept Nil_ wo.drew w' → w'.cell? ⟨bs, 0, none⟩ = some (.string t) := fun w' h => h.nil_cell (show wo.drew.cell? _ = _ from c0)
        clear HI c0 f0
        refine wp_region_tail (Nil_) [9] (by kernel_rfl) ?_
        apply wpT_next 0 (some 12) (by kernel_rfl)
        · rfl
        · rfl
        · kernel_rfl
        · kernel_rfl
        · kernel_rfl
        · exact fun _ _ _ _ h => h
        apply Exists.intro
        apply And.intro
        · apply yr_run; rfl; intro w' hw'; go_simp; (try with_reducible rfl)
        simp only [Act.put, stA_, st0_, st1_]
        apply wpT_next 1 (some 13) (by kernel_rfl)
        · rfl
        · rfl
        · kernel_rfl
        · kernel_rfl
        · kernel_rfl
        · exact fun _ _ _ _ h => h
        apply Exists.intro
        apply And.intro
        · apply yr_run; rfl; intro w' hw'; go_simp; (try with_reducible rfl)
        simp only [Act.put, stA_, st0_, st1_]
        apply wpT_next 2 (some 14) (by kernel_rfl)
        · rfl
        · rfl
        · kernel_rfl
        · kernel_rfl
        · kernel_rfl
        · exact fun _ _ _ _ h => h
        apply Exists.intro
        apply And.intro
        · apply yr_run; rfl; intro w' hw'; go_simp; (try with_reducible rfl)
        simp only [Act.put, stA_, st0_, st1_]
        apply wpT_next 3 (some 15) (by kernel_rfl)
        · rfl
        · rfl
        · kernel_rfl
        · kernel_rfl
        · kernel_rfl
        · exact fun _ _ _ _ h => h
        apply Exists.intro
        apply And.intro
        · apply yr_run; rfl; intro w' hw'; exact exec_strHigh 9 (.tmp 12) (.tmp 14) rfl Try.underlying9 rfl (by first | rfl | exact congrArg (Value.int .i64) rfl) hk1
        simp only [Act.put, stA_, st0_, st1_]
        apply wpT_next 4 (some 16) (by kernel_rfl)
        · rfl
        · rfl
        · kernel_rfl
        · kernel_rfl
        · kernel_rfl
        · exact fun _ _ _ _ h => h
        apply Exists.intro
        apply And.intro
        · apply yr_run; rfl; intro w' hw'; go_simp; (try with_reducible rfl)
        simp only [Act.put, stA_, st0_, st1_]
        apply wpT_next 5 (some 17) (by kernel_rfl)
        · rfl
        · rfl
        · kernel_rfl
        · kernel_rfl
        · kernel_rfl
        · exact fun _ _ _ _ h => h
        apply Exists.intro
        apply And.intro
        · apply yr_run; rfl; intro w' hw'; go_simp; (try with_reducible rfl)
        simp only [Act.put, stA_, st0_, st1_]
        apply wpT_next 6 (some 18) (by kernel_rfl)
        · rfl
        · rfl
        · kernel_rfl
        · kernel_rfl
        · kernel_rfl
        · exact fun _ _ _ _ h => h
        apply Exists.intro
        apply And.intro
        · apply yr_run; rfl; intro w' hw'; go_simp; (try with_reducible rfl)
        simp only [Act.put, stA_, st0_, st1_]
        apply wpT_next 7 (some 19) (by kernel_rfl)
        · rfl
        · rfl
        · kernel_rfl
        · kernel_rfl
        · kernel_rfl
        · exact fun _ _ _ _ h => h
        apply Exists.intro
        apply And.intro
        · apply yr_run; rfl; intro w' hw'; exact exec_strLow 9 (.tmp 16) (.tmp 18) rfl Try.underlying9 rfl (by first | rfl | exact congrArg (Value.int .i64) rfl) hk1
        simp only [Act.put, stA_, st0_, st1_]
        apply wpT_next 8 (some 3) (by kernel_rfl)
        · rfl
        · rfl
        · kernel_rfl
        · kernel_rfl
        · kernel_rfl
        · exact fun _ _ _ _ h => h
        apply Exists.intro
        apply And.intro
        · apply yr_run; rfl; intro w' hw'; go_simp; (try with_reducible rfl)
        simp only [Act.put, stA_, st0_, st1_]
        apply wpT_last 9
        · rfl
        · rfl
        · kernel_rfl
        · rfl
        · decide
        intro w' hw'
        have hY := HW.out.dr.bl hw'
        have m1 := hY.cell (i := 0) rfl
        have e1 := hY.free 0
        refine ⟨w'.setCell ⟨bs, 0, none⟩ (.string v2), ?_, ?_⟩
        · go_simp; first | done | exact rfl
        have HW2 := Lib.hid (hY.set_ 0 (.string v2))
        have HJ2 := Lib.hid ((HJc.out pre).sc ((HJc.out pre).bel HJ.out (bel_bl (bel_dr (Below.refl _ wo)) hw')) bs (.string v2) HTb.out)
        obtain ⟨w2, gw2⟩ : ∃ z, w'.setCell ⟨bs, 0, none⟩ (.string v2) = z := ⟨_, rfl⟩
        rw [gw2] at HW2 HJ2 ⊢
        have HS2 : RowKit.Hid (W.heap.size ≤ w2.heap.size) := Lib.hid (by rw [← gw2]; have h1 := HSw.out; have h2 := hw'.size; simp at h2 ⊢; omega)
        clear gw2 hw' hY m1 e1
        try simp only [Act.put, stA_, st0_, st1_]
        refine wpT_done (by kernel_rfl) ?_ _
        intro Wx hwx
        have HJx : RowKit.Hid (J pre Wx) := Lib.hid ((HJc.out pre).bel HJ2.out hwx)
        have HWx : RowKit.Hid (Whole Wx bs 9 [.string (txt rest')] ∧ W.heap.size ≤ Wx.heap.size) := Lib.hid ⟨by rw [Gv.out]; exact HW2.out.bl hwx, Nat.le_trans HS2.out hwx.size⟩
        clear hwx
        go_upto_region 6 with fail
        obtain ⟨fn, tmps, assign, body, hy, hR⟩ := HY.out pre X Wx HJx.out HPre.out HWx.out.2 (fun i hi => Nat.lt_of_lt_of_le (HTs.out i hi) HWx.out.2)
        have HR := Lib.hid hR
        clear hR
        rw [Gu.out] at hy
        refine (wpIn_wide (n := 0)).1 ?_
        gi_wp2
        refine ⟨rfl, HR.out.mono ?_⟩
        clear hy HR
        rintro e W3 (⟨rfl, hJ3, hk3⟩ | ⟨rfl, hJx3, -⟩)
        · have HJ3 := Lib.hid (And.intro hJ3 (Nat.le_trans HWx.out.2 hk3.size))
          have HW3 := Lib.hid (hk3.whole HWx.out.1 HKb.out)
          clear hJ3 hk3
          gi_wp2
          go_wp2
          go_roundw
          case rel => exact ⟨pre ++ [X], rest', HFx, HJ3, HW3⟩
          case measure => rw [lftS_eq HW3.out, lftS_eq HW.out]; exact HMx.out
        · have HJ3 := Lib.hid hJx3
          clear hJx3
          gi_wp2
          go_wp2
          refine bodyPost_ret (results_none rfl _ _ _) rfl ?_
          exact ⟨⟨_, rfl⟩, .inr ⟨pre ++ [X], HPre.out, HJ3.out⟩⟩
      · have hn := idx_none rest HF.out.2.1 h10
        rw [hn] at hidx
        have HI := Lib.hid hidx
        have hL : lns [] rest = [rest] := by rw [lns_end rest [] h10, List.nil_append, if_neg hr]
        obtain ⟨X, gX⟩ : ∃ z, rest = z := ⟨_, rfl⟩
        obtain ⟨rest', gr⟩ : ∃ z, ([] : List Nat) = z := ⟨_, rfl⟩
        have HFx : RowKit.Hid (LL = (pre ++ [X]) ++ lns [] rest' ∧ (∀ b ∈ rest', b < 256) ∧ rest'.length ≤ 1000000) := Lib.hid ⟨by rw [HF.out.1, hL, ← gX, ← gr]; simp [lns], fun b h => (by rw [← gr] at h; cases h), by rw [← gr]; simp⟩
        have HPre : RowKit.Hid (pre ++ [X] <+: LL) := Lib.hid ⟨lns [] rest', HFx.out.1.symm⟩
        have Gu : RowKit.Hid (txt X = t) := Lib.hid (by rw [← gX]; exact gt)
        have Gv : RowKit.Hid (txt rest' = { data := #[] }) := Lib.hid (by rw [← gr]; rfl)
        have HMx : RowKit.Hid ((txt rest').size < t.size) := Lib.hid (by rw [Gv.out]; exact hz)
        clear hidx hn hL hr h10 gt hts gX gr HF
        go_upto_region 6 with (go_at_call 56; refine (HI.out _).mono ?_; rintro e w' ⟨rfl, hww⟩; rw [hww]; clear hww w')
        obtain ⟨Wx, gWx⟩ : ∃ z, wo.setCell ⟨bs, 0, none⟩ (.string { data := #[] }) = z := ⟨_, rfl⟩
        have HJx : RowKit.Hid (J pre Wx) := Lib.hid (by rw [← gWx]; exact (HJc.out pre).sc HJ.out bs _ HTb.out)
        have HWx : RowKit.Hid (Whole Wx bs 9 [.string (txt rest')] ∧ W.heap.size ≤ Wx.heap.size) := Lib.hid ⟨by rw [Gv.out, ← gWx]; exact HW.out.set_ 0 _, by rw [← gWx]; have := HSw.out; simpa using this⟩
        rw [gWx]
        clear gWx HI c0 f0
        obtain ⟨fn, tmps, assign, body, hy, hR⟩ := HY.out pre X Wx HJx.out HPre.out HWx.out.2 (fun i hi => Nat.lt_of_lt_of_le (HTs.out i hi) HWx.out.2)
        have HR := Lib.hid hR
        clear hR
        rw [Gu.out] at hy
        refine (wpIn_wide (n := 0)).1 ?_
        gi_wp2
        refine ⟨rfl, HR.out.mono ?_⟩
        clear hy HR
        rintro e W3 (⟨rfl, hJ3, hk3⟩ | ⟨rfl, hJx3, -⟩)
        · have HJ3 := Lib.hid (And.intro hJ3 (Nat.le_trans HWx.out.2 hk3.size))
          have HW3 := Lib.hid (hk3.whole HWx.out.1 HKb.out)
          clear hJ3 hk3
          gi_wp2
          go_wp2
          go_roundw
          case rel => exact ⟨pre ++ [X], rest', HFx, HJ3, HW3⟩
          case measure => rw [lftS_eq HW3.out, lftS_eq HW.out]; exact HMx.out
        · have HJ3 := Lib.hid hJx3
          clear hJx3
          gi_wp2
          go_wp2
          refine bodyPost_ret (results_none rfl _ _ _) rfl ?_
          exact ⟨⟨_, rfl⟩, .inr ⟨pre ++ [X], HPre.out, HJ3.out⟩⟩
end Go.Proofs.Ytinfbaflkjghhaa
/- The lines of a text with their numbers: an iterator over an iterator. -/
namespace Go.Proofs.Ytinfbaflkjghhaa
open Go.RowKit
attribute [local go_sem] Oper.semAt_some
theorem lns_len : ∀ (l cur : List Nat), (lns cur l).length ≤ l.length + cur.length
  | [], cur => by
    rw [lns]
    cases cur with
    | nil => simp
    | cons c t => simp
  | c :: t, cur => by
    rw [lns]
    split
    · have := lns_len t []; simp at this ⊢; omega
    · have := lns_len t (cur ++ [c]); simp at this ⊢; omega
theorem KpS.sub {K K' : Nat → Prop} {W W' : World} (h : KpS K W W') (hs : ∀ i, K' i → K i) : KpS K' W W' := ⟨h.size, fun i h1 h2 => h.same i h1 (hs i h2)⟩
set_option maxRecDepth 100000 in
set_option maxHeartbeats 4000000 in
theorem numb_any (l : List Nat) (w : World) : Calls Try.prog 33 #[.string (txt l)] w fun e w' => e = .returned (.func (.func 53) #[] #[.pointer (some ⟨w.heap.size, 0, none⟩)]) ∧ w' = w.alloc (.cells #[.string (txt l)] 9) := by
  obtain ⟨t, gt⟩ : ∃ z, txt l = z := ⟨_, rfl⟩
  rw [gt]
  clear gt
  go_enter Try.func33, Try.ntmps33
  go_wp2
  go_ret
  exact ⟨rfl, rfl⟩
set_option maxRecDepth 100000 in
set_option maxHeartbeats 4000000 in
theorem numb_its (bn : Nat) (l : List Nat) (hb : ∀ b ∈ l, b < 256) (hl : l.length ≤ 1000000) (K T : Nat → Prop) (W : World) (hK : ∀ i, W.heap.size ≤ i → i ≤ W.heap.size + 4 → K i) (hT : ∀ i, W.heap.size ≤ i → i ≤ W.heap.size + 4 → T i) (hTs : ∀ i, T i → i < W.heap.size + 5) (h1 : Whole W bn 9 [.string (txt l)]) :
    ItS Try.prog 53 #[.pointer (some ⟨bn, 0, none⟩)] (fun (pre : List (List Nat)) x => #[.int .i64 ((pre.length + 1 : Nat) : Int), .string (txt x)]) K T (lns [] l) W := by
  intro q J Jx hJ hJx hY h0
  have HL := Lib.hid (lines_any l)
  have HIt := Lib.hid (fun (bs : Nat) (K T : Nat → Prop) (W : World) => lines_its bs l hb hl K T W)
  have hll : (lns [] l).length ≤ 1000000 := Nat.le_trans (lns_len l []) (by simpa using hl)
  obtain ⟨LL, gLL⟩ : ∃ z, lns [] l = z := ⟨_, rfl⟩
  obtain ⟨t, gt⟩ : ∃ z, txt l = z := ⟨_, rfl⟩
  rw [gLL] at hY HIt hll ⊢
  rw [gt] at h1 HL HIt
  have HJc := Lib.hid hJ
  have HJxc := Lib.hid hJx
  have HKc := Lib.hid hK
  have HTc := Lib.hid hT
  have HTs := Lib.hid hTs
  have HLl := Lib.hid hll
  have HY : RowKit.Hid (∀ (pre : List (List Nat)) (x : List Nat) W1, J pre W1 → pre ++ [x] <+: LL → W.heap.size ≤ W1.heap.size → (∀ i, T i → i < W1.heap.size) → YieldAt Fence.wide 0 Try.prog q #[.int .i64 ((pre.length + 1 : Nat) : Int), .string (txt x)] W1 fun e W' => (e = .returned (.bool true) ∧ J (pre ++ [x]) W' ∧ KpS K W1 W') ∨ (e = .returned (.bool false) ∧ Jx (pre ++ [x]) W' ∧ KpS K W1 W')) := Lib.hid hY
  have HJ0 := Lib.hid h0
  have HB := Lib.hid h1
  have c0 := h1.cell (i := 0) rfl
  have hlt := h1.lt
  clear hJ hJx hY h0 hK hT hTs h1 gLL gt hb hl hll
  show CallsIn Fence.wide 0 Try.prog 53 #[.func (.yield q) #[] #[], .pointer (some ⟨bn, 0, none⟩)] W _
  refine callsIn_of_wp_marks Try.func53 rfl trivial ?_
  simp only [Try.ntmps53, List.size_toArray, List.length_cons, List.length_nil, Nat.reduceAdd, Nat.reduceSub, Array.replicate_succ, Array.replicate_zero, List.push_toArray, List.append_toArray, List.nil_append, List.cons_append]
  refine wpIn_wide.2 ?_
  have hWs : Whole (((W.alloc (.cells #[.func (.yield q) #[] #[]] 92)).alloc (.cells #[.int .i64 0] 3)).alloc (.cells #[.string t] 9)) (W.heap.size + 1 + 1) 9 [.string t] := Whole.new2 (by simp)
  have hWy : Whole (((W.alloc (.cells #[.func (.yield q) #[] #[]] 92)).alloc (.cells #[.int .i64 0] 3)).alloc (.cells #[.string t] 9)) W.heap.size 92 [.func (.yield q) #[] #[]] := ((Whole.new_ W 92 [_]).al _).al _
  have hWn : Whole (((W.alloc (.cells #[.func (.yield q) #[] #[]] 92)).alloc (.cells #[.int .i64 0] 3)).alloc (.cells #[.string t] 9)) (W.heap.size + 1) 3 [.int .i64 0] := (Whole.new2 (w := W.alloc (.cells #[.func (.yield q) #[] #[]] 92)) (cs := [.int .i64 0]) (t := 3) (by simp)).al _
  have hJ1 : J [] (((W.alloc (.cells #[.func (.yield q) #[] #[]] 92)).alloc (.cells #[.int .i64 0] 3)).alloc (.cells #[.string t] 9)) := ((HJc.out []).al ((HJc.out []).al ((HJc.out []).al HJ0.out _) _) _)
  have hsz : (((W.alloc (.cells #[.func (.yield q) #[] #[]] 92)).alloc (.cells #[.int .i64 0] 3)).alloc (.cells #[.string t] 9)).heap.size = W.heap.size + 3 := by simp
  go_wp2_with (go_at_call 54; refine (HL.out _).mono ?_; rintro e w' ⟨rfl, rfl⟩)
  obtain ⟨W0, gW0⟩ : ∃ z, ((W.alloc (.cells #[.func (.yield q) #[] #[]] 92)).alloc (.cells #[.int .i64 0] 3)).alloc (.cells #[.string t] 9) = z := ⟨_, rfl⟩
  rw [gW0] at hWs hWy hWn hJ1 hsz
  try simp only [World.size_setCell, World.size_alloc]
  rw [gW0]
  clear gW0 c0 HB
  obtain ⟨c, gc⟩ : ∃ z, W.heap.size = z := ⟨_, rfl⟩
  rw [gc] at hWs hWy hWn hsz HKc HTc HTs HY hlt ⊢
  rw [show c + 1 + 1 = c + 2 from rfl] at hWs ⊢
  clear gc HL HJ0
  have HWs := Lib.hid hWs
  have HWy := Lib.hid hWy
  have HWn := Lib.hid hWn
  have HJ1 := Lib.hid hJ1
  clear hWs hWy hWn hJ1
  refine (wpIn_wide (n := 0)).1 ?_
  refine wpIn_roundS (gf := 70) (lb := #[.pointer (some ⟨c + 2, 0, none⟩)]) rfl (enters_of Try.func70 (by kernel_rfl) rfl) (encs := fun _ x => #[.string (txt x)]) (fun _ _ => rfl) (fun i => i = c + 2) (fun i => i = c + 2) (by rw [hsz]; omega) (by rw [hsz]; omega)
    (fun r => HIt.out (c + 2) _ _ _ rfl rfl (fun i hi => by simp only [World.size_alloc]; omega) ((HWs.out.al _).al _))
    (fun p V => J p V ∧ Whole V c 92 [.func (.yield q) #[] #[]] ∧ Whole V (c + 1) 3 [.int .i64 ((p.length : Nat) : Int)])
    (fun p x a' V => a' = { tmps := #[.func (.yield q) #[] #[], .pointer (some ⟨bn, 0, none⟩), .pointer (some ⟨c, 0, none⟩), .pointer (some ⟨c + 1, 0, none⟩), .string (txt x), .string t, .func (.func 70) #[] #[.pointer (some ⟨c + 2, 0, none⟩)], .string (txt x), undef, undef, undef, undef, undef, undef, undef], defers := [] } ∧ J p V ∧ Whole V c 92 [.func (.yield q) #[] #[]] ∧ Whole V (c + 1) 3 [.int .i64 ((p.length : Nat) : Int)])
    (fun k p V => k = .ret ∧ Jx p V)
    (fun p A B r h hg hr => ⟨HJc.out p A B r h.1 hg (fun z e => by have := hr z e; rw [hsz] at this; exact HTc.out z (by omega) (by omega)), h.2.1.at_ (hg.block _ h.2.1.lt (fun e => by have := hr _ e.symm; rw [hsz] at this; omega)), h.2.2.at_ (hg.block _ h.2.2.lt (fun e => by have := hr _ e.symm; rw [hsz] at this; omega))⟩)
    (fun p x a' A B r h hg hr => ⟨h.1, HJc.out p A B r h.2.1 hg (fun z e => by have := hr z e; rw [hsz] at this; exact HTc.out z (by omega) (by omega)), h.2.2.1.at_ (hg.block _ h.2.2.1.lt (fun e => by have := hr _ e.symm; rw [hsz] at this; omega)), h.2.2.2.at_ (hg.block _ h.2.2.2.lt (fun e => by have := hr _ e.symm; rw [hsz] at this; omega))⟩)
    (fun k p A B r h hg hr => ⟨h.1, HJxc.out p A B r h.2 hg (fun z e => by have := hr z e; rw [hsz] at this; exact HTc.out z (by omega) (by omega))⟩)
    ⟨HJ1.out, HWy.out, HWn.out⟩ ?assign ?body ?done ?stop
  case assign =>
    intro l' pre x V R hi hpre hsz3 hT3 hKK
    gi_wp2
    exact hKK _ _ (KpS.refl _ _) ⟨rfl, hi⟩
  case body =>
    rintro l' pre x a' V ⟨rfl, hj, hy0, hn0⟩ hpre hsz3 hT3
    obtain ⟨k, gk⟩ : ∃ z, pre.length = z := ⟨_, rfl⟩
    obtain ⟨k1, gk1⟩ : ∃ z, k + 1 = z := ⟨_, rfl⟩
    have hkm : k ≤ 1000000 := by have h1 := hpre.length_le; have h2 := HLl.out; rw [List.length_append] at h1; omega
    have e1 : IntKind.i64.wrap ((k : Int) + 1) = (k1 : Int) := by rw [show (k : Int) + 1 = (k1 : Int) by omega]; exact IntWalk.i64_in _ (by omega)
    rw [gk] at hn0
    have y0 := hy0.cell (i := 0) rfl
    have n0 := hn0.cell (i := 0) rfl
    have nf := hn0.free 0
    have y1 := (hy0.far (p := ⟨c + 1, 0, none⟩) (show c ≠ c + 1 by omega) (.int .i64 (k1 : Int))).cell (i := 0) rfl
    have n1 := (hn0.set_ 0 (.int .i64 (k1 : Int))).cell (i := 0) rfl
    obtain ⟨fn, tmps, assign, body, hy, hR⟩ := HY.out pre x (V.setCell ⟨c + 1, 0, none⟩ (.int .i64 (k1 : Int))) ((HJc.out _).sc hj (c + 1) _ (HTc.out _ (by omega) (by omega))) hpre (by rw [World.size_setCell]; omega) (fun i hi => by rw [World.size_setCell]; have := HTs.out i hi; omega)
    rw [gk, gk1] at hy
    have HR := Lib.hid hR
    have HN1 := Lib.hid (hn0.set_ 0 (.int .i64 (k1 : Int)))
    have HY1 := Lib.hid (hy0.far (p := ⟨c + 1, 0, none⟩) (show c ≠ c + 1 by omega) (.int .i64 (k1 : Int)))
    have HK1 : RowKit.Hid (KpS (fun i => i = c + 2 ∨ i = W0.heap.size ∨ i = W0.heap.size + 1) V (V.setCell ⟨c + 1, 0, none⟩ (.int .i64 (k1 : Int)))) := Lib.hid (KpS.grown (grownBy_setCell' _ _ _) (fun r e => by cases e; rw [hsz]; omega))
    have Hl1 : RowKit.Hid ((pre ++ [x]).length = k1) := Lib.hid (by rw [List.length_append, gk]; exact gk1)
    obtain ⟨u, gu⟩ : ∃ z, txt x = z := ⟨_, rfl⟩
    rw [gu] at hy ⊢
    clear hR hj hy0 hn0 gk gk1 hkm gu
    gi_wp2
    refine ⟨rfl, RoundIn.inRound l' (HR.out.mono ?_)⟩
    have HSz := Lib.hid hsz
    clear hy HR y0 n0 nf y1 n1 e1 hsz
    rintro e W3 (⟨rfl, hJ3, hk3⟩ | ⟨rfl, hJ3, hk3⟩)
    · have HJ3 := Lib.hid hJ3
      have HY3 := Lib.hid (hk3.whole HY1.out (HKc.out _ (by omega) (by omega)))
      have HN3 := Lib.hid (hk3.whole HN1.out (HKc.out _ (by omega) (by omega)))
      have HK3 := Lib.hid (HK1.out.trans (hk3.sub (fun i hi => by have := HSz.out; exact HKc.out i (by omega) (by omega))))
      clear hJ3 hk3
      gi_wp2
      exact ⟨HK3.out, HJ3.out, HY3.out, by rw [Hl1.out]; exact HN3.out⟩
    · have HJ3 := Lib.hid hJ3
      have HK3 := Lib.hid (HK1.out.trans (hk3.sub (fun i hi => by have := HSz.out; exact HKc.out i (by omega) (by omega))))
      clear hJ3 hk3
      gi_wp2
      exact ⟨HK3.out, rfl, HJ3.out⟩
  case done =>
    rintro V ⟨hj, -, -⟩ hKd
    go_wp2
    refine ⟨by simp, .inl ⟨_, _, rfl, run_takeDeferred hKd, ?_⟩⟩
    exact ⟨_, results_none rfl _ _ _, ⟨_, rfl⟩, .inl ((HJc.out _).po hj _ _ (HTc.out _ (by omega) (by omega)))⟩
  case stop =>
    rintro k pre V hpre ⟨rfl, hj⟩ hKd
    gi_wp2
    refine ⟨by simp, .inl ⟨_, _, rfl, run_takeDeferred hKd, ?_⟩⟩
    exact ⟨_, results_none rfl _ _ _, ⟨_, rfl⟩, .inr ⟨pre, hpre, (HJxc.out _).po hj _ _ (HTc.out _ (by omega) (by omega))⟩⟩
end Go.Proofs.Ytinfbaflkjghhaa
/- script.Parse. -/
namespace Go.Proofs.Ytinfbaflkjghhaa
open Go.RowKit
attribute [local go_sem] Oper.semAt_some
/-- What a line with its newline reads as. -/
def lrV (x : List Nat) : SD := if x.getLast? = some 10 then lnV x.dropLast else zS
def lrO (x : List Nat) : Bool := if x.getLast? = some 10 then lnO x.dropLast else false
theorem lns_mem : ∀ (l cur : List Nat), (∀ b ∈ cur, b < 256 ∧ b ≠ 10) → (∀ b ∈ l, b < 256) → ∀ x ∈ lns cur l, (∀ b ∈ x, b < 256) ∧ x.length ≤ cur.length + l.length ∧ ((∃ a, x = a ++ [10]) ∨ ¬ 10 ∈ x)
  | [], cur, hc, _, x, hx => by
    rw [lns] at hx
    split at hx
    · cases hx
    · obtain rfl := List.mem_singleton.1 hx
      exact ⟨fun b h => (hc b h).1, by simp, .inr (fun h => (hc 10 h).2 rfl)⟩
  | c :: t, cur, hc, hb, x, hx => by
    rw [lns] at hx
    split at hx
    · rcases List.mem_cons.1 hx with rfl | hx
      · refine ⟨fun b h => ?_, by simp, .inl ⟨cur, rfl⟩⟩
        rcases List.mem_append.1 h with h | h
        · exact (hc b h).1
        · obtain rfl := List.mem_singleton.1 h
          decide
      · obtain ⟨h1, h2, h3⟩ := lns_mem t [] (fun b h => by cases h) (fun b h => hb b (by simp [h])) x hx
        exact ⟨h1, by simp at h2 ⊢; omega, h3⟩
    · rename_i hne
      obtain ⟨h1, h2, h3⟩ := lns_mem t (cur ++ [c]) (fun b h => by
        rcases List.mem_append.1 h with h | h
        · exact hc b h
        · obtain rfl := List.mem_singleton.1 h
          exact ⟨hb _ (by simp), hne⟩) (fun b h => hb b (by simp [h])) x hx
      exact ⟨h1, by simp at h2 ⊢; omega, h3⟩
theorem readx_any (x : List Nat) (w : World) (hb : ∀ b ∈ x, b < 256) (hn : x.length ≤ 100000) (hf : (∃ a, x = a ++ [10]) ∨ ¬ 10 ∈ x) :
    Calls Try.prog 34 #[.string (txt x)] w (GivesRd w (lrV x) (lrO x)) := by
  by_cases h10 : 10 ∈ x
  · obtain ⟨a, rfl⟩ := hf.resolve_right (fun h => h h10)
    have h := read_nl a w (by rw [List.length_append] at hn; omega) (fun b h => hb b (by simp [h]))
    unfold lrV lrO
    rw [List.getLast?_concat, if_pos rfl, if_pos rfl, List.dropLast_concat]
    exact h
  · have hl : ¬ x.getLast? = some 10 := fun e => h10 (List.mem_of_getLast? e)
    have h := read_no x w hn hb h10
    unfold lrV lrO
    rw [if_neg hl, if_neg hl]
    exact h
/-- What the lines read as, behind those read. -/
def prT : List (List Nat) → List SD → List SD × Nat × Int
  | [], acc => (acc, 0, 0)
  | x :: xs, acc => if lrO x = true then prT xs (acc ++ [lrV x]) else ([], acc.length + 1, 240)
theorem prT_app (R : List (List Nat)) : ∀ (p : List (List Nat)) (acc : List SD), (∀ x ∈ p, lrO x = true) → prT (p ++ R) acc = prT R (acc ++ p.map lrV)
  | [], acc, _ => by simp
  | x :: p, acc, h => by
    rw [List.cons_append, prT, if_pos (h x (by simp)), prT_app R p _ (fun y hy => h y (by simp [hy])), List.map_cons, List.append_assoc]
    rfl
def parS (l : List Nat) : List SD × Nat × Int := if l.length > 65536 ∨ l.count 10 > 2048 then ([], 0, 3) else prT (lns [] l) []
theorem cnt_ten : ∀ l : List Nat, (∀ b ∈ l, b < 256) → Lib.countByte (l.map UInt8.ofNat) 10 = l.count 10
  | [], _ => rfl
  | c :: l, hb => by
    have ih := cnt_ten l (fun b h => hb b (by simp [h]))
    unfold Lib.countByte at ih ⊢
    rw [List.map_cons, List.count_cons, List.count_cons, ih]
    by_cases hc : c = 10
    · rw [hc]; rfl
    · rw [ten_ne (hb c (by simp)) hc, show (c == 10) = false by simpa using hc]
def GivesL (w : World) (r : List SD × Nat × Int) (e : Ending) (w' : World) : Prop :=
  ∃ (A : Option Addr) (n c : Nat) (Ts : List StT), e = .returned (.tuple #[.slice A n c, .int .i64 (r.2.1 : Int), .int .i64 r.2.2]) ∧ Ts.map sdT = r.1 ∧ StW w.heap.size w' (.slice A n c) n Ts ∧ (∀ s ∈ Ts, s.2.2.1 = s.2.2.2.2.length) ∧ Below w.heap.size w w'
theorem res3_ {fn : Func} {tmps : Array Value} {w : World} {g0 g1 g2 : Nat} {v0 v1 v2 : Value} (h : fn.results = #[.cell 2 22, .cell 3 3, .cell 4 31]) (p0 : tmps.getD 2 undef = .pointer (some ⟨g0, 0, none⟩)) (p1 : tmps.getD 3 undef = .pointer (some ⟨g1, 0, none⟩)) (p2 : tmps.getD 4 undef = .pointer (some ⟨g2, 0, none⟩))
    (H0 : Whole w g0 22 [v0]) (H1 : Whole w g1 3 [v1]) (H2 : Whole w g2 31 [v2]) : (results fn tmps).run Try.prog w = .ok (.tuple #[v0, v1, v2]) w := by
  have c0 := H0.cell (i := 0) rfl
  have c1 := H1.cell (i := 0) rfl
  have c2 := H2.cell (i := 0) rfl
  rw [Array.getD_eq_getD_getElem?] at p0 p1 p2
  simp [results, h, p0, p1, p2, asAddr, go_sem, c0, c1, c2]
/-- What stands between two rounds. -/
structure PIn (w : World) (b0 b1 b2 b3 lo : Nat) (pre : List (List Nat)) (V : World) : Prop where
  r0 : Whole V b0 22 [.slice none 0 0]
  r1 : Whole V b1 3 [.int .i64 0]
  r2 : Whole V b2 31 [.int .i64 0]
  out : ∃ A c Ts, Whole V b3 22 [.slice A pre.length c] ∧ StW lo V (.slice A pre.length c) pre.length Ts ∧ Ts.map sdT = pre.map lrV ∧ ∀ s ∈ Ts, s.2.2.1 = s.2.2.2.2.length
  good : ∀ x ∈ pre, lrO x = true
  below : Below w.heap.size w V
theorem own_far {W W' : World} {lo k n : Nat} {t : TypeId} {v : Value} {xs : List Value} {r : Option Nat} (h : W.ownsRow lo t k v n xs) (hg : W.grownBy W' r) (hr : ∀ q, r = some q → q < lo) : W'.ownsRow lo t k v n xs :=
  h.kept hg (by
    cases hq : v.ownBlock with
    | none => exact .inl rfl
    | some q => exact .inr (fun e => by have h1 := (h.lt q hq).1; have h2 := hr q e.symm; omega))
end Go.Proofs.Ytinfbaflkjghhaa
/- script.Parse walked. -/
namespace Go.Proofs.Ytinfbaflkjghhaa
open Go.RowKit
attribute [local go_sem] Oper.semAt_some
theorem gives_rd {w w' : World} {k1 k2 k3 k4 : Int} {ok : Bool} {V : List OpT} {e : Ending} (h : GivesRd w ((k1, k2, k3, k4), V) ok e w') : ∃ A n c, e = .returned (.tuple #[.agg #[.int .i64 k1, .int .i64 k2, .int .i64 k3, .int .i64 k4, .slice A n c], .bool ok]) ∧ n = V.length ∧ w'.ownsRow w.heap.size 53 20 (.slice A n c) n (rowsV opCells V) ∧ Below w.heap.size w w' := by
  obtain ⟨A, n, c, h1, h2, h3, h4⟩ := h
  exact ⟨A, n, c, h1, h2, h3, h4⟩
theorem PIn.abs {w : World} {b0 b1 b2 b3 lo : Nat} {pre : List (List Nat)} {V V' : World} {r : Option Nat} (h : PIn w b0 b1 b2 b3 lo pre V) (hg : V.grownBy V' r) (hr : ∀ q, r = some q → b0 < q ∧ b1 < q ∧ b2 < q ∧ b3 < q ∧ q < lo ∧ w.heap.size ≤ q) : PIn w b0 b1 b2 b3 lo pre V' := by
  obtain ⟨A, c, Ts, h1, h2, h3, h4⟩ := h.out
  refine ⟨h.r0.at_ (hg.block _ h.r0.lt (fun e => by have := hr _ e.symm; omega)), h.r1.at_ (hg.block _ h.r1.lt (fun e => by have := hr _ e.symm; omega)), h.r2.at_ (hg.block _ h.r2.lt (fun e => by have := hr _ e.symm; omega)), ⟨A, c, Ts, h1.at_ (hg.block _ h1.lt (fun e => by have := hr _ e.symm; omega)), ⟨own_far h2.row hg (fun q e => (hr q e).2.2.2.2.1), fun s hs => own_far (h2.each s hs) hg (fun q e => (hr q e).2.2.2.2.1)⟩, h3, h4⟩, h.good, ?_⟩
  exact h.below.grown hg h.below.size (fun k e => by have := hr k e; omega)
set_option maxRecDepth 100000 in
set_option maxHeartbeats 4000000 in
theorem parse_any (l : List Nat) (w : World) (hb : ∀ b ∈ l, b < 256) (hl : l.length ≤ 100000) : Calls Try.prog 17 #[.string (txt l)] w (GivesL w (parS l)) := by
  obtain ⟨iS, hiS, zS0, zS1, zS2⟩ := info_parts_ info_stp
  have hts : (txt l).size = l.length := txt_size l
  have HN := Lib.hid (numb_any l)
  have HIt := Lib.hid (fun (bn : Nat) (K T : Nat → Prop) (W : World) => numb_its bn l hb (by omega) K T W)
  have HC : RowKit.Hid (∀ W, Calls Try.prog 32 #[.string (txt l), .string { data := #[10] }] W fun e w' => e = .returned (.int .i64 ((l.count 10 : Nat) : Int)) ∧ w' = W) := Lib.hid (fun W => by
    refine (Try.strings_Count_one (txt l) 10 W).mono ?_
    rintro e w' ⟨rfl, rfl⟩
    rw [txt_data, cnt_ten l hb]
    exact ⟨rfl, rfl⟩)
  have HM : RowKit.Hid (∀ x ∈ lns [] l, (∀ b ∈ x, b < 256) ∧ x.length ≤ 100000 ∧ ((∃ a, x = a ++ [10]) ∨ ¬ 10 ∈ x)) := Lib.hid (fun x hx => by
    obtain ⟨h1, h2, h3⟩ := lns_mem l [] (fun b h => by cases h) hb x hx
    exact ⟨h1, by simp at h2; omega, h3⟩)
  have HMl : RowKit.Hid ((lns [] l).length ≤ 100000) := Lib.hid (Nat.le_trans (lns_len l []) (by simpa using hl))
  have HP0 : RowKit.Hid (parS l = if l.length > 65536 ∨ l.count 10 > 2048 then ([], 0, 3) else prT (lns [] l) []) := Lib.hid rfl
  obtain ⟨t, gt⟩ : ∃ z, txt l = z := ⟨_, rfl⟩
  obtain ⟨R, gR⟩ : ∃ z, parS l = z := ⟨_, rfl⟩
  obtain ⟨LL, gLL⟩ : ∃ z, lns [] l = z := ⟨_, rfl⟩
  obtain ⟨cn, gcn⟩ : ∃ z, l.count 10 = z := ⟨_, rfl⟩
  rw [gt] at hts HN HC HIt ⊢
  rw [gR] at HP0 ⊢
  rw [gLL] at HIt HM HMl HP0
  rw [gcn] at HC HP0
  rw [← hts] at HP0
  have hcl : cn ≤ 100000 := by rw [← gcn]; exact Nat.le_trans List.count_le_length hl
  have htl : t.size ≤ 100000 := by omega
  clear gt gR gLL gcn hts hb hl
  refine (callsIn_wide (n := 0)).1 ?_
  refine callsIn_of_wp_marks Try.func17 rfl trivial ?_
  simp only [Try.ntmps17, List.size_toArray, List.length_cons, List.length_nil, Nat.reduceAdd, Nat.reduceSub, Array.replicate_succ, Array.replicate_zero, List.push_toArray, List.append_toArray, List.nil_append, List.cons_append]
  refine wpIn_wide.2 ?_
  go_upto_region 1 with fail
  have hx0 : Whole (((w.alloc (.cells #[.slice none 0 0] 22)).alloc (.cells #[.int .i64 0] 3)).alloc (.cells #[.int .i64 0] 31)) (w.heap.size) 22 [.slice none 0 0] := (((Whole.new_ w 22 [.slice none 0 0]).alloc (.cells #[.int .i64 0] 3)).alloc (.cells #[.int .i64 0] 31))
  have hx1 : Whole (((w.alloc (.cells #[.slice none 0 0] 22)).alloc (.cells #[.int .i64 0] 3)).alloc (.cells #[.int .i64 0] 31)) (w.heap.size + 1) 3 [.int .i64 0] := ((Whole.new2 (w := (w.alloc (.cells #[.slice none 0 0] 22))) (by simp)).alloc (.cells #[.int .i64 0] 31))
  have hx2 : Whole (((w.alloc (.cells #[.slice none 0 0] 22)).alloc (.cells #[.int .i64 0] 3)).alloc (.cells #[.int .i64 0] 31)) (w.heap.size + 1 + 1) 31 [.int .i64 0] := (Whole.new2 (w := ((w.alloc (.cells #[.slice none 0 0] 22)).alloc (.cells #[.int .i64 0] 3))) (by simp))
  have hbl : Below w.heap.size w (((w.alloc (.cells #[.slice none 0 0] 22)).alloc (.cells #[.int .i64 0] 3)).alloc (.cells #[.int .i64 0] 31)) := (bel_al (bel_al (below1 w (.cells #[.slice none 0 0] 22)) (.cells #[.int .i64 0] 3)) (.cells #[.int .i64 0] 31))
  have hsz : w.heap.size + 1 + 1 + 1 ≤ ((((w.alloc (.cells #[.slice none 0 0] 22)).alloc (.cells #[.int .i64 0] 3)).alloc (.cells #[.int .i64 0] 31))).heap.size := by simp
  obtain ⟨W0, gW0⟩ : ∃ z, (((w.alloc (.cells #[.slice none 0 0] 22)).alloc (.cells #[.int .i64 0] 3)).alloc (.cells #[.int .i64 0] 31)) = z := ⟨_, rfl⟩
  rw [gW0] at hx0 hx1 hx2 hbl hsz
  obtain ⟨b2, gb2⟩ : ∃ z, w.heap.size + 1 + 1 = z := ⟨_, rfl⟩
  rw [gb2] at hx2
  obtain ⟨b1, gb1⟩ : ∃ z, w.heap.size + 1 = z := ⟨_, rfl⟩
  rw [gb1] at hx1
  obtain ⟨b0, gb0⟩ : ∃ z, w.heap.size = z := ⟨_, rfl⟩
  rw [gb0] at hx0
  have HX0 := Lib.hid hx0
  have HX1 := Lib.hid hx1
  have HX2 := Lib.hid hx2
  have HB0 := Lib.hid hbl
  have HS0 := Lib.hid hsz
  have Gb0 := Lib.hid gb0
  have Lb0 : RowKit.Hid (w.heap.size ≤ b0) := Lib.hid (by omega)
  have Gb1 := Lib.hid gb1
  have Lb1 : RowKit.Hid (w.heap.size ≤ b1) := Lib.hid (by omega)
  have Gb2 := Lib.hid gb2
  have Lb2 : RowKit.Hid (w.heap.size ≤ b2) := Lib.hid (by omega)
  have N01 : RowKit.Hid (b0 ≠ b1) := Lib.hid (by omega)
  have N02 : RowKit.Hid (b0 ≠ b2) := Lib.hid (by omega)
  have N12 : RowKit.Hid (b1 ≠ b2) := Lib.hid (by omega)
  rw [gW0, gb2, gb1, gb0]
  clear gW0 hbl hsz hx0 hx1 hx2 gb0 gb1 gb2
  by_cases hbig : t.size > 65536 ∨ cn > 2048
  · have HR : RowKit.Hid (R = ([], 0, 3)) := Lib.hid (by rw [HP0.out, if_pos hbig])
    have c0 := HX0.out.cell (i := 0) rfl
    have c1 := HX1.out.cell (i := 0) rfl
    have c2 := HX2.out.cell (i := 0) rfl
    have f0 := HX0.out.free 0
    have f1 := HX1.out.free 0
    have f2 := HX2.out.free 0
    have q1 := (HX1.out.far (p := ⟨b0, 0, none⟩) N01.out.symm (.slice none 0 0)).cell (i := 0) rfl
    have g1 := (HX1.out.far (p := ⟨b0, 0, none⟩) N01.out.symm (.slice none 0 0)).free 0
    have q2 := ((HX2.out.far (p := ⟨b0, 0, none⟩) N02.out.symm (.slice none 0 0)).far (p := ⟨b1, 0, none⟩) N12.out.symm (.int .i64 0)).cell (i := 0) rfl
    have g2 := ((HX2.out.far (p := ⟨b0, 0, none⟩) N02.out.symm (.slice none 0 0)).far (p := ⟨b1, 0, none⟩) N12.out.symm (.int .i64 0)).free 0
    have HZ0 := Lib.hid (((HX0.out.set_ 0 (.slice none 0 0)).far (p := ⟨b1, 0, none⟩) N01.out (.int .i64 0)).far (p := ⟨b2, 0, none⟩) N02.out (.int .i64 3))
    have HZ1 := Lib.hid (((HX1.out.far (p := ⟨b0, 0, none⟩) N01.out.symm (.slice none 0 0)).set_ 0 (.int .i64 0)).far (p := ⟨b2, 0, none⟩) N12.out (.int .i64 3))
    have HZ2 := Lib.hid (((HX2.out.far (p := ⟨b0, 0, none⟩) N02.out.symm (.slice none 0 0)).far (p := ⟨b1, 0, none⟩) N12.out.symm (.int .i64 0)).set_ 0 (.int .i64 3))
    have HZB := Lib.hid (((HB0.out.setCell (p := ⟨b0, 0, none⟩) Lb0.out (.slice none 0 0)).setCell (p := ⟨b1, 0, none⟩) Lb1.out (.int .i64 0)).setCell (p := ⟨b2, 0, none⟩) Lb2.out (.int .i64 3))
    clear HX0 HX1 HX2 HB0 HS0 HIt HN HM HMl HP0
    by_cases h1 : 65536 < t.size
    · have h1I : (65536 : Int) < (t.size : Int) := by omega
      clear hbig HC
      go_wp2
      refine ⟨_, res3_ rfl rfl rfl rfl HZ0.out HZ1.out HZ2.out, ?_⟩
      rw [HR.out]
      exact ⟨none, 0, 0, [], rfl, rfl, ⟨World.ownsRow_nil _ _ _ _, fun s hs => (by cases hs)⟩, fun s hs => (by cases hs), HZB.out⟩
    · have h1I : ¬ (65536 : Int) < (t.size : Int) := by omega
      have h2I : (2048 : Int) < (cn : Int) := by omega
      clear hbig
      go_wp2_with (go_at_call 32; refine (HC.out _).mono ?_; rintro e w' ⟨rfl, hww⟩; rw [hww]; clear hww w')
      refine ⟨_, res3_ rfl rfl rfl rfl HZ0.out HZ1.out HZ2.out, ?_⟩
      rw [HR.out]
      exact ⟨none, 0, 0, [], rfl, rfl, ⟨World.ownsRow_nil _ _ _ _, fun s hs => (by cases hs)⟩, fun s hs => (by cases hs), HZB.out⟩
  · have HR : RowKit.Hid (R = prT LL []) := Lib.hid (by rw [HP0.out, if_neg hbig])
    have h1I : ¬ (65536 : Int) < (t.size : Int) := by omega
    have h2I : ¬ (2048 : Int) < (cn : Int) := by omega
    clear hbig HP0
    have hX3 := Whole.new_ W0 22 [.slice none 0 0]
    have HY0 := Lib.hid (HX0.out.al (.cells #[.slice none 0 0] 22))
    have HY1 := Lib.hid (HX1.out.al (.cells #[.slice none 0 0] 22))
    have HY2 := Lib.hid (HX2.out.al (.cells #[.slice none 0 0] 22))
    have HYB := Lib.hid (bel_al HB0.out (.cells #[.slice none 0 0] 22))
    have Hne3 : RowKit.Hid (b0 < W0.heap.size ∧ b1 < W0.heap.size ∧ b2 < W0.heap.size ∧ w.heap.size ≤ W0.heap.size) := Lib.hid ⟨HX0.out.lt, HX1.out.lt, HX2.out.lt, HB0.out.size⟩
    go_upto_region 4 with (go_at_call 32; refine (HC.out _).mono ?_; rintro e w' ⟨rfl, hww⟩; rw [hww]; clear hww w')
    obtain ⟨W1, gW1⟩ : ∃ z, W0.alloc (.cells #[.slice none 0 0] 22) = z := ⟨_, rfl⟩
    have hsz1 : W1.heap.size = W0.heap.size + 1 := by rw [← gW1]; simp
    obtain ⟨b3, gb3⟩ : ∃ z, W0.heap.size = z := ⟨_, rfl⟩
    rw [gW1] at hX3 HY0 HY1 HY2 HYB ⊢
    rw [gb3] at hX3 Hne3 hsz1 ⊢
    have HY3 := Lib.hid hX3
    clear gW1 gb3 hX3 HX0 HX1 HX2 HB0 HS0 HC
    have hn2 := HN.out W1
    go_wp2_with (go_at_call 33; refine hn2.mono ?_; rintro e w' ⟨rfl, hww⟩; rw [hww]; clear hww w')
    have HU0 := Lib.hid (HY0.out.al (.cells #[.string t] 9))
    have HU1 := Lib.hid (HY1.out.al (.cells #[.string t] 9))
    have HU2 := Lib.hid (HY2.out.al (.cells #[.string t] 9))
    have HU3 := Lib.hid (HY3.out.al (.cells #[.string t] 9))
    have HUB := Lib.hid (bel_al HYB.out (.cells #[.string t] 9))
    have HUn := Lib.hid (Whole.new_ W1 9 [.string t])
    have hszn : (W1.alloc (.cells #[.string t] 9)).heap.size = b3 + 2 := by rw [World.size_alloc, hsz1]
    obtain ⟨W2, gW2⟩ : ∃ z, W1.alloc (.cells #[.string t] 9) = z := ⟨_, rfl⟩
    rw [hsz1] at HUn
    rw [gW2] at HU0 HU1 HU2 HU3 HUB HUn hszn ⊢
    clear gW2 HY0 HY1 HY2 HY3 HYB hn2 HN hsz1
    obtain ⟨bn, gbn⟩ : ∃ z, b3 + 1 = z := ⟨_, rfl⟩
    rw [gbn] at HUn ⊢
    obtain ⟨b, gb⟩ : ∃ z, b3 + 2 = z := ⟨_, rfl⟩
    have Hb := Lib.hid gb
    rw [gb] at hszn
    have hP0 : PIn w b0 b1 b2 b3 (b + 7) [] W2 := ⟨HU0.out, HU1.out, HU2.out, ⟨none, 0, [], HU3.out, ⟨World.ownsRow_nil _ _ _ _, fun s hs => (by cases hs)⟩, rfl, fun s hs => (by cases hs)⟩, fun x hx => (by cases hx), HUB.out⟩
    have hls : ∀ q, (b + 2 ≤ q ∧ q ≤ b + 6 ∨ q = b ∨ q = b + 1) → b0 < q ∧ b1 < q ∧ b2 < q ∧ b3 < q ∧ q < b + 7 ∧ w.heap.size ≤ q := fun q hq => by have := Hne3.out; have := Hb.out; omega
    have Hls := Lib.hid hls
    refine (wpIn_wide (n := 0)).1 ?_
    rw [← hszn] at Hb Hls hP0
    refine wpIn_roundS (gf := 53) (lb := #[.pointer (some ⟨bn, 0, none⟩)]) rfl (enters_of Try.func53 (by kernel_rfl) rfl) (encs := fun (pre : List (List Nat)) x => #[.int .i64 ((pre.length + 1 : Nat) : Int), .string (txt x)]) (fun _ _ => rfl) (fun i => W2.heap.size + 2 ≤ i ∧ i ≤ W2.heap.size + 6) (fun i => W2.heap.size + 2 ≤ i ∧ i ≤ W2.heap.size + 6) (by omega) (by omega)
      (fun r => HIt.out bn _ _ _ (fun i h1 h2 => by simp only [World.size_alloc] at h1 h2; omega) (fun i h1 h2 => by simp only [World.size_alloc] at h1 h2; omega) (fun i h => by simp only [World.size_alloc]; omega) ((HUn.out.al _).al _))
      (fun p V => PIn w b0 b1 b2 b3 (W2.heap.size + 7) p V)
      (fun p x a' V => a' = { tmps := #[.string t, undef, .pointer (some ⟨b0, 0, none⟩), .pointer (some ⟨b1, 0, none⟩), .pointer (some ⟨b2, 0, none⟩), .pointer (some ⟨b3, 0, none⟩), .int .i64 ((p.length + 1 : Nat) : Int), .string (txt x), undef, undef, .string t, .int .i64 (t.size : Int), .bool false, .bool false, .string t, .int .i64 (cn : Int), .bool (decide ((2048 : Int) < (cn : Int))), .bool (decide ((2048 : Int) < (cn : Int))), .string t, .func (.func 53) #[] #[.pointer (some ⟨bn, 0, none⟩)], .int .i64 ((p.length + 1 : Nat) : Int), .string (txt x), undef, undef, undef, undef, undef, undef, undef, undef, undef, undef, undef, undef, undef], defers := [] } ∧ PIn w b0 b1 b2 b3 (W2.heap.size + 7) p V)
      (fun k p V => k = .ret ∧ Whole V b0 22 [.slice none 0 0] ∧ Whole V b1 3 [.int .i64 ((p.length : Nat) : Int)] ∧ Whole V b2 31 [.int .i64 240] ∧ R = ([], p.length, 240) ∧ Below w.heap.size w V)
      (fun p A B r h hg hr => h.abs hg (fun q e => Hls.out q (hr q e)))
      (fun p x a' A B r h hg hr => ⟨h.1, h.2.abs hg (fun q e => Hls.out q (.inr (.inr (hr q e))))⟩)
      (fun k p A B r h hg hr => ⟨h.1, h.2.1.at_ (hg.block _ h.2.1.lt (fun e => by have := Hls.out _ (hr _ e.symm); omega)), h.2.2.1.at_ (hg.block _ h.2.2.1.lt (fun e => by have := Hls.out _ (hr _ e.symm); omega)), h.2.2.2.1.at_ (hg.block _ h.2.2.2.1.lt (fun e => by have := Hls.out _ (hr _ e.symm); omega)), h.2.2.2.2.1, h.2.2.2.2.2.grown hg h.2.2.2.2.2.size (fun k e => by have := Hls.out k (hr k e); omega)⟩)
      hP0 ?assign ?body ?done ?stop
    case assign =>
      intro l' pre x V R hi hpre hsz3 hT3 hKK
      obtain ⟨K, gK⟩ : ∃ z : Int, ((pre.length + 1 : Nat) : Int) = z := ⟨_, rfl⟩
      rw [gK]
      gi_wp2
      exact hKK _ _ (KpS.refl _ _) ⟨by rw [gK], hi⟩
    case body =>
      rintro l' pre x a' V ⟨rfl, hP⟩ hpre hsz3 hT3
      have hxL : x ∈ LL := hpre.subset (by simp)
      obtain ⟨hb1, hl1, hf1⟩ := HM.out x hxL
      have HRd := Lib.hid (fun W => readx_any x W hb1 hl1 hf1)
      have hkm : pre.length ≤ 100000 := by have h1 := hpre.length_le; have h2 := HMl.out; rw [List.length_append] at h1; omega
      have hv6 : W2.heap.size + 6 < V.heap.size := hT3 _ (by omega)
      have Hng : RowKit.Hid (lrO x = false → R = ([], (pre ++ [x]).length, 240)) := Lib.hid (fun h => by
        obtain ⟨S, gS⟩ := hpre
        have e := prT_app (x :: S) pre [] hP.good
        rw [HR.out, ← gS, List.append_assoc, List.singleton_append, e, prT, h, if_neg (by decide)]
        simp)
      obtain ⟨A, c, Ts, h1, h2, h3, h4⟩ := hP.out
      have HP := Lib.hid hP
      have HT := Lib.hid (And.intro h3 h4)
      have HSw := Lib.hid h2
      have HO := Lib.hid h1
      obtain ⟨u, gu⟩ : ∃ z, txt x = z := ⟨_, rfl⟩
      rw [gu] at HRd ⊢
      obtain ⟨k, gk⟩ : ∃ z, pre.length = z := ⟨_, rfl⟩
      rw [gk] at HO HSw hkm ⊢
      obtain ⟨Kn, gKn⟩ : ∃ z : Int, ((k + 1 : Nat) : Int) = z := ⟨_, rfl⟩
      rw [gKn]
      have HK := Lib.hid gKn
      have Hk := Lib.hid gk
      obtain ⟨X, gX⟩ : ∃ z, lrV x = z := ⟨_, rfl⟩
      obtain ⟨ok, gok⟩ : ∃ z, lrO x = z := ⟨_, rfl⟩
      have HX := Lib.hid gX
      have Hok := Lib.hid gok
      rw [gX, gok] at HRd
      rw [gok] at Hng
      obtain ⟨⟨x1, x2, x3, x4⟩, L⟩ := X
      clear hP hxL hb1 hl1 hf1 h1 h2 h3 h4 gu gk gKn gX gok
      gi_wp2_with fail
      refine ⟨trivial, rfl, CallsIn.inRound l' (callsIn_wide.2 ((HRd.out V).mono ?_))⟩
      rintro e W3 hg
      obtain ⟨A4, n4, c4, rfl, hn4, ho4, hb4⟩ := gives_rd hg
      clear hg
      have hb5 := bel_al hb4 (.cells #[.int .i64 x1, .int .i64 x2, .int .i64 x3, .int .i64 x4, .slice A4 n4 c4] 30)
      have hg8 : Whole (W3.alloc (.cells #[.int .i64 x1, .int .i64 x2, .int .i64 x3, .int .i64 x4, .slice A4 n4 c4] 30)) W3.heap.size 30 [.int .i64 x1, .int .i64 x2, .int .i64 x3, .int .i64 x4, .slice A4 n4 c4] := Whole.new_ _ _ [_, _, _, _, _]
      have HI5 := Lib.hid (own_lo8 (B' := W2.heap.size + 7) (own_up ho4 (below1 W3 (.cells #[.int .i64 x1, .int .i64 x2, .int .i64 x3, .int .i64 x4, .slice A4 n4 c4] 30))) (by omega))
      have hgn : V.grownBy (W3.alloc (.cells #[.int .i64 x1, .int .i64 x2, .int .i64 x3, .int .i64 x4, .slice A4 n4 c4] 30)) none := ⟨hb5.os, hb5.tape, hb5.output, hb5.size, fun i hi _ => hb5.block i hi⟩
      have HP5 := Lib.hid (HP.out.abs hgn (fun q e => by cases e))
      have HK5 : RowKit.Hid (KpS (fun i => (W2.heap.size + 2 ≤ i ∧ i ≤ W2.heap.size + 6) ∨ i = W2.heap.size ∨ i = W2.heap.size + 1) V (W3.alloc (.cells #[.int .i64 x1, .int .i64 x2, .int .i64 x3, .int .i64 x4, .slice A4 n4 c4] 30))) := Lib.hid ⟨hb5.size, fun i hi _ => hb5.block i hi⟩
      have HO5 := Lib.hid (HO.out.at_ (hgn.block _ HO.out.lt (fun e => by cases e)))
      have HS5 : RowKit.Hid (StW (W2.heap.size + 7) (W3.alloc (.cells #[.int .i64 x1, .int .i64 x2, .int .i64 x3, .int .i64 x4, .slice A4 n4 c4] 30)) (.slice A k c) k Ts) := Lib.hid (HSw.out.up hb5)
      have HL4 := Lib.hid hn4
      have Hv6 : RowKit.Hid (W2.heap.size + 7 ≤ (W3.alloc (.cells #[.int .i64 x1, .int .i64 x2, .int .i64 x3, .int .i64 x4, .slice A4 n4 c4] 30)).heap.size) := Lib.hid (Nat.le_trans (by omega) hb5.size)
      clear hb4 hb5 ho4 hn4 hgn HP HO HSw HRd hv6 hsz3 hT3
      gi_upto_region 8 with fail
      obtain ⟨W5, gW5⟩ : ∃ z, W3.alloc (.cells #[.int .i64 x1, .int .i64 x2, .int .i64 x3, .int .i64 x4, .slice A4 n4 c4] 30) = z := ⟨_, rfl⟩
      obtain ⟨g8, gg8⟩ : ∃ z, W3.heap.size = z := ⟨_, rfl⟩
      rw [gW5] at hg8 HI5 HP5 HK5 HO5 HS5 Hv6 ⊢
      rw [gg8] at hg8 ⊢
      have HG8 := Lib.hid hg8
      have Hszn := Lib.hid hszn
      clear gW5 gg8 hg8 hszn hP0
      cases ok with
      | false =>
        have HRn := Lib.hid (Hng.out rfl)
        have c0 := HP5.out.r0.cell (i := 0) rfl
        have f0 := HP5.out.r0.free 0
        have q1 := (HP5.out.r1.far (p := ⟨b0, 0, none⟩) N01.out.symm (.slice none 0 0)).cell (i := 0) rfl
        have g1 := (HP5.out.r1.far (p := ⟨b0, 0, none⟩) N01.out.symm (.slice none 0 0)).free 0
        have q2 := ((HP5.out.r2.far (p := ⟨b0, 0, none⟩) N02.out.symm (.slice none 0 0)).far (p := ⟨b1, 0, none⟩) N12.out.symm (.int .i64 Kn)).cell (i := 0) rfl
        have g2 := ((HP5.out.r2.far (p := ⟨b0, 0, none⟩) N02.out.symm (.slice none 0 0)).far (p := ⟨b1, 0, none⟩) N12.out.symm (.int .i64 Kn)).free 0
        have HZ0 := Lib.hid (((HP5.out.r0.set_ 0 (.slice none 0 0)).far (p := ⟨b1, 0, none⟩) N01.out (.int .i64 Kn)).far (p := ⟨b2, 0, none⟩) N02.out (.int .i64 240))
        have HZ1 := Lib.hid (((HP5.out.r1.far (p := ⟨b0, 0, none⟩) N01.out.symm (.slice none 0 0)).set_ 0 (.int .i64 Kn)).far (p := ⟨b2, 0, none⟩) N12.out (.int .i64 240))
        have HZ2 := Lib.hid (((HP5.out.r2.far (p := ⟨b0, 0, none⟩) N02.out.symm (.slice none 0 0)).far (p := ⟨b1, 0, none⟩) N12.out.symm (.int .i64 Kn)).set_ 0 (.int .i64 240))
        have HZB := Lib.hid (((HP5.out.below.setCell (p := ⟨b0, 0, none⟩) Lb0.out (.slice none 0 0)).setCell (p := ⟨b1, 0, none⟩) Lb1.out (.int .i64 Kn)).setCell (p := ⟨b2, 0, none⟩) Lb2.out (.int .i64 240))
        have HKz := Lib.hid (((HK5.out.trans (KpS.grown (grownBy_setCell' W5 b0 (.slice none 0 0)) (fun r e q => by cases e; have := Hls.out b0 (by omega); omega))).trans (KpS.grown (grownBy_setCell' _ b1 (.int .i64 Kn)) (fun r e q => by cases e; have := Hls.out b1 (by omega); omega))).trans (KpS.grown (grownBy_setCell' _ b2 (.int .i64 240)) (fun r e q => by cases e; have := Hls.out b2 (by omega); omega)))
        have HKn : RowKit.Hid (Kn = (((pre ++ [x]).length : Nat) : Int)) := Lib.hid (by rw [← HK.out, List.length_append, Hk.out]; rfl)
        clear HP5 HK5 HO5 HS5 HI5 HG8 HT HX Hok
        gi_wp2
        exact ⟨HKz.out, rfl, HZ0.out, by rw [← HKn.out]; exact HZ1.out, HZ2.out, HRn.out, HZB.out⟩
      | true =>
        have c3 := HO5.out.cell (i := 0) rfl
        have d0 := HG8.out.cell (i := 0) rfl
        have d1 := HG8.out.cell (i := 1) rfl
        have d2 := HG8.out.cell (i := 2) rfl
        have d3 := HG8.out.cell (i := 3) rfl
        have d4 := HG8.out.cell (i := 4) rfl
        have hC : ∀ j v, [.int .i64 x1, .int .i64 x2, .int .i64 x3, .int .i64 x4, .slice A4 n4 c4][j]? = some v → (W5.alloc (.cells #[.int .i64 x1, .int .i64 x2, .int .i64 x3, .int .i64 x4, .slice A4 n4 c4] 30)).cell? ((⟨W5.heap.size, 0, none⟩ : Addr).add j) = some v := fun j v hj => by
          have e := (Whole.new_ W5 30 [.int .i64 x1, .int .i64 x2, .int .i64 x3, .int .i64 x4, .slice A4 n4 c4]).cell hj
          rw [Addr.add_lit, Nat.zero_add]
          exact e
        have hb1 := HO5.out.al (.cells #[.int .i64 x1, .int .i64 x2, .int .i64 x3, .int .i64 x4, .slice A4 n4 c4] 30)
        have ho1 := own_up HS5.out.row (below1 W5 (.cells #[.int .i64 x1, .int .i64 x2, .int .i64 x3, .int .i64 x4, .slice A4 n4 c4] 30))
        have hne := own_ne ho1 hb1 (by decide)
        have hlw : W2.heap.size + 7 ≤ (W5.alloc (.cells #[.int .i64 x1, .int .i64 x2, .int .i64 x3, .int .i64 x4, .slice A4 n4 c4] 30)).heap.size := by have := Hv6.out; simp; omega
        gi_wp2_with (gi_at_builtin; refine wpListIn_append_own _ rfl _ _ 22 rfl (W2.heap.size + 7) 30 iS _ 5 56 Try.underlying22 hiS zS0 zS1 zS2 rfl (by decide) _ _ _ rfl ho1 ⟨W5.heap.size, 0, none⟩ 1 1 [.int .i64 x1, .int .i64 x2, .int .i64 x3, .int .i64 x4, .slice A4 n4 c4] rfl rfl hC (by simp [Value.oneCell']) (by unfold maxLen; omega) (by omega) hlw ?_; intro v' w1 hown' hgrow _; obtain ⟨g', cap', rfl⟩ := ownsRow_succ hown'; have c1 := (hb1.grown hgrow hne).cell (i := 0) rfl; have f1 := (hb1.grown hgrow hne).free 0)
        have hlo : ∀ q, (Value.slice A k c).ownBlock = some q → W2.heap.size + 7 ≤ q := fun q e => (ho1.lt q e).1
        have hlx : (pre ++ [x]).length = k + 1 := by rw [List.length_append, Hk.out]; rfl
        have hb3 := Hne3.out
        have hlb := Hls.out W2.heap.size (.inr (.inl rfl))
        have hB3 := hb1.grown hgrow hne
        refine ⟨((HK5.out.trans (KpS.grown (World.grownBy_alloc W5 (.cells #[.int .i64 x1, .int .i64 x2, .int .i64 x3, .int .i64 x4, .slice A4 n4 c4] 30) none) (fun r e => by cases e))).trans (KpS.grown hgrow (fun r e q => by have := hlo r e; omega))).trans (KpS.grown (grownBy_setCell' w1 b3 _) (fun r e q => by cases e; omega)), ?_⟩
        refine ⟨((HP5.out.r0.al _).grown hgrow (own_ne ho1 (HP5.out.r0.al _) (by decide))).far (p := ⟨b3, 0, none⟩) (show b0 ≠ b3 by omega) _, ((HP5.out.r1.al _).grown hgrow (own_ne ho1 (HP5.out.r1.al _) (by decide))).far (p := ⟨b3, 0, none⟩) (show b1 ≠ b3 by omega) _, ((HP5.out.r2.al _).grown hgrow (own_ne ho1 (HP5.out.r2.al _) (by decide))).far (p := ⟨b3, 0, none⟩) (show b2 ≠ b3 by omega) _, ⟨some ⟨g', 0, none⟩, cap', Ts ++ [((x1, x2, x3, x4), (A4, n4, c4, L))], ?_, ⟨?_, fun s hs => ?_⟩, ?_, fun s hs => ?_⟩, fun y hy => ?_, ?_⟩
        · rw [hlx]
          exact hB3.set_ 0 _
        · rw [hlx, rowsV_app]
          exact own_cell_far hown' (own_ne hown' hB3 (by decide)) _
        · rcases List.mem_append.1 hs with hs | hs
          · have h9 := own_grow (own_up (HS5.out.each s hs) (below1 W5 (.cells #[.int .i64 x1, .int .i64 x2, .int .i64 x3, .int .i64 x4, .slice A4 n4 c4] 30))) ho1 (by decide) hgrow
            exact own_cell_far h9 (own_ne h9 hB3 (by decide)) _
          · obtain rfl := List.mem_singleton.1 hs
            have h9 := own_grow (own_up HI5.out (below1 W5 (.cells #[.int .i64 x1, .int .i64 x2, .int .i64 x3, .int .i64 x4, .slice A4 n4 c4] 30))) ho1 (by decide) hgrow
            exact own_cell_far h9 (own_ne h9 hB3 (by decide)) _
        · rw [List.map_append, List.map_append, HT.out.1, List.map_singleton, List.map_singleton, HX.out]
          rfl
        · rcases List.mem_append.1 hs with hs | hs
          · exact HT.out.2 s hs
          · obtain rfl := List.mem_singleton.1 hs
            exact HL4.out
        · rcases List.mem_append.1 hy with hy | hy
          · exact HP5.out.good y hy
          · obtain rfl := List.mem_singleton.1 hy
            exact Hok.out
        · exact ((bel_al HP5.out.below (.cells #[.int .i64 x1, .int .i64 x2, .int .i64 x3, .int .i64 x4, .slice A4 n4 c4] 30)).grown hgrow (by have := HP5.out.below.size; simp; omega) (fun q e => by have := hlo q e; omega)).setCell (p := ⟨b3, 0, none⟩) hb3.2.2.2 _
    case done =>
      intro V h hKd
      obtain ⟨A, c, Ts, h1, h2, h3, h4⟩ := h.out
      have HGd : RowKit.Hid (R = (LL.map lrV, 0, 0)) := Lib.hid (by have e := prT_app [] LL [] h.good; rw [List.append_nil] at e; rw [HR.out, e]; rfl)
      have HRd : RowKit.Hid (R = (LL.map lrV, 0, 0)) := HGd
      have hlb := Hls.out W2.heap.size (.inr (.inl rfl))
      have hb3 := Hne3.out
      have c3 := h1.cell (i := 0) rfl
      have c0 := h.r0.cell (i := 0) rfl
      have f0 := h.r0.free 0
      have q3 := (h1.far (p := ⟨b0, 0, none⟩) (show b3 ≠ b0 by omega) (.slice A LL.length c)).cell (i := 0) rfl
      have q1 := (h.r1.far (p := ⟨b0, 0, none⟩) N01.out.symm (.slice A LL.length c)).cell (i := 0) rfl
      have g1 := (h.r1.far (p := ⟨b0, 0, none⟩) N01.out.symm (.slice A LL.length c)).free 0
      have q2 := ((h.r2.far (p := ⟨b0, 0, none⟩) N02.out.symm (.slice A LL.length c)).far (p := ⟨b1, 0, none⟩) N12.out.symm (.int .i64 0)).cell (i := 0) rfl
      have g2 := ((h.r2.far (p := ⟨b0, 0, none⟩) N02.out.symm (.slice A LL.length c)).far (p := ⟨b1, 0, none⟩) N12.out.symm (.int .i64 0)).free 0
      have hZ0 := ((h.r0.set_ 0 (.slice A LL.length c)).far (p := ⟨b1, 0, none⟩) N01.out (.int .i64 0)).far (p := ⟨b2, 0, none⟩) N02.out (.int .i64 0)
      have hZ1 := ((h.r1.far (p := ⟨b0, 0, none⟩) N01.out.symm (.slice A LL.length c)).set_ 0 (.int .i64 0)).far (p := ⟨b2, 0, none⟩) N12.out (.int .i64 0)
      have hZ2 := ((h.r2.far (p := ⟨b0, 0, none⟩) N02.out.symm (.slice A LL.length c)).far (p := ⟨b1, 0, none⟩) N12.out.symm (.int .i64 0)).set_ 0 (.int .i64 0)
      have hZB := ((h.below.setCell (p := ⟨b0, 0, none⟩) Lb0.out (.slice A LL.length c)).setCell (p := ⟨b1, 0, none⟩) Lb1.out (.int .i64 0)).setCell (p := ⟨b2, 0, none⟩) Lb2.out (.int .i64 0)
      have G0 := grownBy_setCell' V b0 (.slice A LL.length c)
      have G1 := grownBy_setCell' (V.setCell ⟨b0, 0, none⟩ (.slice A LL.length c)) b1 (.int .i64 0)
      have G2 := grownBy_setCell' ((V.setCell ⟨b0, 0, none⟩ (.slice A LL.length c)).setCell ⟨b1, 0, none⟩ (.int .i64 0)) b2 (.int .i64 0)
      have hsV : W2.heap.size < V.heap.size := (Array.getElem?_eq_some_iff.1 hKd).1
      have hK1 := (G0.block W2.heap.size hsV (fun e => by cases e; omega)).trans hKd
      have hK2 := (G1.block W2.heap.size (Nat.lt_of_lt_of_le hsV G0.size) (fun e => by cases e; omega)).trans hK1
      have hK3 := (G2.block W2.heap.size (Nat.lt_of_lt_of_le hsV (Nat.le_trans G0.size G1.size)) (fun e => by cases e; omega)).trans hK2
      have hSt : ∀ {T : TypeId} {kk nn : Nat} {v : Value} {xs : List Value}, V.ownsRow (W2.heap.size + 7) T kk v nn xs → ((((V.setCell ⟨b0, 0, none⟩ (.slice A LL.length c)).setCell ⟨b1, 0, none⟩ (.int .i64 0)).setCell ⟨b2, 0, none⟩ (.int .i64 0)).putObj W2.heap.size (.deferred none)).ownsRow w.heap.size T kk v nn xs := fun hh =>
        own_lo8 (own_far (own_far (own_far (own_far hh G0 (fun q e => by cases e; omega)) G1 (fun q e => by cases e; omega)) G2 (fun q e => by cases e; omega)) (grownBy_putObj' _ _ _) (fun q e => by cases e; omega)) (by omega)
      have HZ0 := Lib.hid (hZ0.at_ (World.putObj_heap_other (o := .deferred none) (show b0 ≠ W2.heap.size by omega)))
      have HZ1 := Lib.hid (hZ1.at_ (World.putObj_heap_other (o := .deferred none) (show b1 ≠ W2.heap.size by omega)))
      have HZ2 := Lib.hid (hZ2.at_ (World.putObj_heap_other (o := .deferred none) (show b2 ≠ W2.heap.size by omega)))
      have HZB := Lib.hid (hZB.grown (grownBy_putObj' _ W2.heap.size (.deferred none)) hZB.size (fun q e => by cases e; omega))
      have HSt := Lib.hid (And.intro (hSt h2.row) (fun s hs => hSt (h2.each s hs)))
      have H34 := Lib.hid (And.intro h3 h4)
      have HK3 := Lib.hid hK3
      clear hSt hZ0 hZ1 hZ2 hZB G0 G1 G2 hK1 hK2 hK3 hKd h h1 h2 h3 h4 HGd hP0 hls
      go_wp2
      refine ⟨by simp, .inl ⟨_, _, rfl, run_takeDeferred HK3.out, ?_⟩⟩
      refine ⟨_, res3_ rfl rfl rfl rfl HZ0.out HZ1.out HZ2.out, ?_⟩
      rw [HRd.out]
      exact ⟨A, LL.length, c, Ts, rfl, H34.out.1, ⟨HSt.out.1, HSt.out.2⟩, H34.out.2, HZB.out⟩
    case stop =>
      rintro k pre V hpre ⟨rfl, h0, h1, h2, h3, h4⟩ hKd
      have Hp := Lib.hid hKd
      have H0 := Lib.hid (h0.at_ (World.putObj_heap_other (w := V) (o := .deferred none) (show b0 ≠ W2.heap.size from by have := Hls.out W2.heap.size (.inr (.inl rfl)); omega)))
      have H1 := Lib.hid (h1.at_ (World.putObj_heap_other (w := V) (o := .deferred none) (show b1 ≠ W2.heap.size from by have := Hls.out W2.heap.size (.inr (.inl rfl)); omega)))
      have H2 := Lib.hid (h2.at_ (World.putObj_heap_other (w := V) (o := .deferred none) (show b2 ≠ W2.heap.size from by have := Hls.out W2.heap.size (.inr (.inl rfl)); omega)))
      have HBl := Lib.hid (h4.grown (grownBy_putObj' V W2.heap.size (.deferred none)) h4.size (fun k e => by cases e; have := Hls.out W2.heap.size (.inr (.inl rfl)); omega))
      clear h0 h1 h2 h4
      gi_wp2
      refine ⟨by simp, .inl ⟨_, _, rfl, run_takeDeferred hKd, ?_⟩⟩
      refine ⟨_, res3_ rfl rfl rfl rfl H0.out H1.out H2.out, ?_⟩
      rw [h3]
      exact ⟨none, 0, 0, [], rfl, rfl, ⟨World.ownsRow_nil _ _ _ _, fun s hs => (by cases hs)⟩, fun s hs => (by cases hs), HBl.out⟩
end Go.Proofs.Ytinfbaflkjghhaa
/- The document's Parse. -/
namespace Go.Proofs.Ytinfbaflkjghhaa
open Go.RowKit
theorem lr_ten (cur : List Nat) : lrV (cur ++ [10]) = lnV cur ∧ lrO (cur ++ [10]) = lnO cur := by
  unfold lrV lrO
  rw [List.getLast?_concat, if_pos rfl, if_pos rfl, List.dropLast_concat]
  exact ⟨rfl, rfl⟩
theorem own_rows_len {W : World} {lo n : Nat} {v : Value} {Ts : List StT} (h : W.ownsRow lo 30 5 v n (rowsV stC Ts)) : Ts.length = n := by
  obtain ⟨A, c, rfl, h2⟩ := RdS.of_own h
  exact h2.rlen stC_len (by decide)
end Go.Proofs.Ytinfbaflkjghhaa
/- What Parse gives, told for readers; ScriptParses. -/
namespace Go.Proofs.Ytinfbaflkjghhaa
open Go.RowKit
def StepFit (s : SD) : Prop := In4 s.1 ∧ s.2.length ≤ 1000000 ∧ ∀ o ∈ s.2, o.t.size ≤ maxLen
theorem zS_fit : StepFit zS := by
  refine ⟨⟨?_, ?_, ?_, ?_⟩, by decide, fun o h => (by cases h)⟩ <;> · unfold In64; decide
theorem lrV_fit (x : List Nat) : StepFit (lrV x) := by
  have h : ∀ y : List Nat, StepFit (lnV y) := fun y => by
    unfold lnV
    split
    · have h1 := tkS_ops (B := pD y) (pD_lt y)
      exact ⟨tkS_in _, by omega, h1.2⟩
    · exact zS_fit
  unfold lrV
  split
  · exact h _
  · exact zS_fit
theorem prT_fit : ∀ (xs : List (List Nat)) (acc : List SD), (∀ s ∈ acc, StepFit s) → (∀ s ∈ (prT xs acc).1, StepFit s) ∧ (prT xs acc).1.length ≤ acc.length + xs.length
  | [], acc, h => ⟨h, Nat.le_refl _⟩
  | x :: xs, acc, h => by
    rw [prT]
    split
    · obtain ⟨h1, h2⟩ := prT_fit xs (acc ++ [lrV x]) (fun s hs => by
        rcases List.mem_append.1 hs with hs | hs
        · exact h s hs
        · obtain rfl := List.mem_singleton.1 hs
          exact lrV_fit x)
      exact ⟨h1, by rw [List.length_append] at h2; simp at h2 ⊢; omega⟩
    · exact ⟨fun s hs => (by cases hs), by simp⟩
theorem parS_fit (l : List Nat) : (∀ s ∈ (parS l).1, StepFit s) ∧ (parS l).1.length ≤ l.length := by
  unfold parS
  split
  · exact ⟨fun s hs => (by cases hs), by simp⟩
  · obtain ⟨h1, h2⟩ := prT_fit (lns [] l) [] (fun s hs => (by cases hs))
    exact ⟨h1, by have := lns_len l []; simp at this h2; omega⟩
/-- What is told of a row of steps read. -/
def GivesQ (w : World) (X : List SD) (N : Nat) (E : Int) (e : Ending) (w' : World) : Prop :=
  ∃ (A : Option Addr) (n c : Nat) (Ts : List StT), e = .returned (.tuple #[.slice A n c, .int .i64 (N : Int), .int .i64 E]) ∧ Ts.map sdT = X ∧ StRd w' A n c Ts ∧ n = X.length ∧ n ≤ 100000 ∧ Below w.heap.size w w'
theorem gives_q {w w' : World} {l : List Nat} {e : Ending} (hl : l.length ≤ 100000) (h : GivesL w (parS l) e w') : GivesQ w (parS l).1 (parS l).2.1 (parS l).2.2 e w' := by
  obtain ⟨A, n, c, Ts, h1, h2, h3, h4, h5⟩ := h
  obtain ⟨f1, f2⟩ := parS_fit l
  have hf : ∀ s ∈ Ts, StepFit (sdT s) := fun s hs => f1 _ (by rw [← h2]; exact List.mem_map_of_mem hs)
  have hn : n = (parS l).1.length := by rw [← h2, List.length_map]; exact (own_rows_len h3.row).symm
  exact ⟨A, n, c, Ts, h1, h2, h3.rd (fun s hs => by rw [h4 s hs]; exact (hf s hs).2.1) (fun s hs => (hf s hs).2.2) (fun s hs => (hf s hs).1), hn, by omega, h5⟩
theorem parse_q (l : List Nat) (w : World) (hb : ∀ b ∈ l, b < 256) (hl : l.length ≤ 100000) : Calls Try.prog 17 #[.string (txt l)] w (GivesQ w (parS l).1 (parS l).2.1 (parS l).2.2) :=
  (parse_any l w hb hl).mono (fun e w' h => gives_q hl h)
end Go.Proofs.Ytinfbaflkjghhaa
/- There and back: scripts as bytes. -/
namespace Go.Proofs.Ytinfbaflkjghhaa
open Go.RowKit
theorem ln_back {x : SD} (hx : In4 x.1) (h : sdE x = 0) : lnO (dgs (sdB x)) = true ∧ lnV (dgs (sdB x)) = x := by
  obtain ⟨h1, h2⟩ := okS_sd hx h
  have hp := pD_dgs (sdB x) (sdB_lt x)
  have ho : okD (dgs (sdB x)) = true := decide_eq_true (by rw [hp])
  obtain ⟨g1, -, g3⟩ := ln_yes ho
  rw [hp] at g1 g3
  exact ⟨g3.trans h1, g1.trans h2⟩
theorem lr_back {x : SD} (hx : In4 x.1) (h : sdE x = 0) : lrO (lnB x) = true ∧ lrV (lnB x) = x := by
  obtain ⟨h1, h2⟩ := lr_ten (dgs (sdB x))
  obtain ⟨h3, h4⟩ := ln_back hx h
  exact ⟨h2.trans h3, h1.trans h4⟩
theorem dgs_ten (x : SD) : ¬ 10 ∈ dgs (sdB x) := fun h => by
  have := dgs_vD (sdB_lt x) 10 h
  exact absurd this (by decide)
theorem lns_prB (R : List Nat) : ∀ X : List SD, lns [] (prB X ++ R) = X.map lnB ++ lns [] R
  | [] => rfl
  | x :: X => by
    have e : prB (x :: X) ++ R = dgs (sdB x) ++ 10 :: (prB X ++ R) := by simp [prB, lnB]
    rw [e, lns_cut _ _ _ (dgs_ten x), lns_prB R X]
    simp [lnB]
theorem prT_back (R : List (List Nat)) : ∀ (X acc : List SD), (∀ x ∈ X, In4 x.1 ∧ sdE x = 0) → prT (X.map lnB ++ R) acc = prT R (acc ++ X)
  | [], acc, _ => by simp
  | x :: X, acc, h => by
    obtain ⟨h1, h2⟩ := lr_back (h x (by simp)).1 (h x (by simp)).2
    rw [List.map_cons, List.cons_append, prT, if_pos h1, prT_back R X _ (fun y hy => h y (by simp [hy])), h2]
    simp
theorem cnt_dgs (x : SD) : (lnB x).count 10 = 1 := by
  unfold lnB
  rw [List.count_append, List.count_eq_zero.2 (dgs_ten x)]
  rfl
theorem cnt_prB : ∀ X : List SD, (prB X).count 10 = X.length
  | [] => rfl
  | x :: X => by
    have e : prB (x :: X) = lnB x ++ prB X := by simp [prB]
    rw [e, List.count_append, cnt_dgs, cnt_prB X, List.length_cons]
    omega
theorem prE_zero : ∀ X : List SD, (∀ x ∈ X, sdE x = 0) → prE X = 0
  | [], _ => rfl
  | x :: X, h => by rw [prE, if_pos (h x (by simp))]; exact prE_zero X (fun y hy => h y (by simp [hy]))
theorem parS_back {X : List SD} (h : ∀ x ∈ X, In4 x.1 ∧ sdE x = 0) (hl : X.length ≤ 2048) (hb : (prB X).length ≤ 65536) : parS (prB X) = (X, 0, 0) := by
  unfold parS
  rw [cnt_prB, if_neg (by omega)]
  have h1 := lns_prB [] X
  rw [List.append_nil] at h1
  rw [h1, show lns [] [] = [] from rfl, prT_back [] X [] h]
  rfl
end Go.Proofs.Ytinfbaflkjghhaa
