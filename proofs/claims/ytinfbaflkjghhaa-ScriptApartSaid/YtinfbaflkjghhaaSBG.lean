/- 'ScriptApart' answers true for every two steps.
   No condition beyond the row's own. -/
import Derived.Test.YtinfbaflkjghhaaSBF
import Derived.Test.YtinfbaflkjghhaaSBE
import Derived.Deep.CutBlock
import Derived.Test.YtinfbaflkjghhaaSBA
import Derived.Test.YtinfbaflkjghhaaSBC
import Derived.Test.YtinfbaflkjghhaaRows
/- Print, and the document's own; the document's example. -/
set_option linter.unusedSimpArgs false
set_option linter.unusedVariables false
namespace Go.Proofs.Ytinfbaflkjghhaa
open Go.RowKit
/-- A step's line, and a script. -/
def lnB (x : SD) : List Nat := dgs (sdB x) ++ [10]
def prB (X : List SD) : List Nat := X.flatMap lnB
def prE : List SD → Int
  | [] => 0
  | x :: X => if sdE x = 0 then prE X else sdE x
def prS (X : List SD) : List Nat := if prE X = 0 then prB X else []
theorem prE_app : ∀ (X Y : List SD), prE X = 0 → prE (X ++ Y) = prE Y
  | [], Y, _ => rfl
  | x :: X, Y, h => by
    have h2 : (if sdE x = 0 then prE X else sdE x) = 0 := h
    show (if sdE x = 0 then prE (X ++ Y) else sdE x) = _
    by_cases hx : sdE x = 0
    · rw [if_pos hx] at h2 ⊢
      exact prE_app X Y h2
    · rw [if_neg hx] at h2
      exact absurd h2 hx
theorem prE_next {X : List SD} {k : Nat} {x : SD} (hx : X[k]? = some x) (h : prE (X.take k) = 0) (h0 : sdE x = 0) : prE (X.take (k + 1)) = 0 := by
  rw [List.take_add_one, hx, prE_app _ _ h]
  show (if sdE x = 0 then prE [] else sdE x) = 0
  rw [if_pos h0]
  rfl
theorem prE_bad {X : List SD} {k : Nat} {x : SD} (hx : X[k]? = some x) (h : prE (X.take k) = 0) (h0 : ¬ sdE x = 0) : prE X = sdE x := by
  have e : X = X.take k ++ (x :: X.drop (k + 1)) := by
    conv => lhs; rw [← List.take_append_drop k X]
    congr 1
    rw [List.drop_eq_getElem_cons (List.getElem?_eq_some_iff.1 hx).1, (List.getElem?_eq_some_iff.1 hx).2]
  rw [e, prE_app _ _ h]
  show (if sdE x = 0 then _ else sdE x) = _
  rw [if_neg h0]
theorem prB_next {X : List SD} {k : Nat} {x : SD} (hx : X[k]? = some x) : prB (X.take (k + 1)) = prB (X.take k) ++ lnB x := by
  rw [List.take_add_one, hx]
  simp [prB, List.flatMap_append]
theorem lnB_lt (x : SD) : ∀ c ∈ lnB x, c < 256 := fun c hc => by
  rcases List.mem_append.1 hc with h | h
  · exact dgs_lt (sdB_lt x) c h
  · obtain rfl := List.mem_singleton.1 h; decide
theorem prB_lt (X : List SD) : ∀ c ∈ prB X, c < 256 := fun c hc => by
  obtain ⟨x, -, hc⟩ := List.mem_flatMap.1 hc
  exact lnB_lt x c hc
theorem lnB_len {x : SD} (h : sdE x = 0) : (lnB x).length ≤ 343 := by
  unfold lnB
  rw [List.length_append, dgs_len]
  have := (sdB_len h).2
  simp only [List.length_singleton]
  omega
theorem prB_len : ∀ (X : List SD), prE X = 0 → (prB X).length ≤ 343 * X.length
  | [], _ => Nat.le_refl _
  | x :: X, h => by
    have h2 : (if sdE x = 0 then prE X else sdE x) = 0 := h
    by_cases hx : sdE x = 0
    · rw [if_pos hx] at h2
      have := prB_len X h2
      have h3 := lnB_len hx
      show (lnB x ++ prB X).length ≤ 343 * (X.length + 1)
      rw [List.length_append]
      omega
    · rw [if_neg hx] at h2
      exact absurd h2 hx
theorem sdP_ok {x : SD} (h : sdE x = 0) : sdP x = sdB x := by unfold sdP; rw [if_pos h]
def GivesPr (w : World) (X : List SD) (e : Ending) (w' : World) : Prop := e = .returned (.tuple #[.string (txt (prS X)), .int .i64 (prE X)]) ∧ Below w.heap.size w w'
theorem and_15 : ∀ b : Nat, b < 256 → bits .and .u8 (b : Int) 15 = ((b % 16 : Nat) : Int) := by
  have h : ∀ b : Fin 256, bits .and .u8 (b.val : Int) 15 = ((b.val % 16 : Nat) : Int) := by decide +kernel
  exact fun b hb => h ⟨b, hb⟩
/-- What stands beside the builder is kept. -/
def NoBl (g : Nat) (v : Value) (A : Option Addr) (n : Nat) : Prop := ∀ a, A = some a → 0 < n → a.block ≠ g ∧ some a.block ≠ v.ownBlock
theorem NoBl.on {g n c : Nat} {v v' : Value} {A : Option Addr} {w w' : World} {xs : List Value} (h : NoBl g v A n) (hr : RdS w w.heap.size 1 A n c xs) (ho : v'.ownBlock = v.ownBlock ∨ ∀ i, v'.ownBlock = some i → w.heap.size ≤ i) : NoBl g v' A n := fun a ha h0 => ⟨(h a ha h0).1, by
  rcases ho with ho | ho
  · rw [ho]; exact (h a ha h0).2
  · intro e
    have h1 := ho _ e.symm
    have h2 := hr.low a ha h0
    omega⟩
theorem NoBl.keep {g n c : Nat} {v : Value} {A : Option Addr} {w w' : World} {xs : List Value} (h : NoBl g v A n) (hr : RdS w w.heap.size 1 A n c xs) (hk : Kept (fun i => i = g ∨ some i = v.ownBlock) w w') : RdS w' w'.heap.size 1 A n c xs :=
  hr.kept_ne hk (fun a ha h0 q => q.elim (h a ha h0).1 (h a ha h0).2)
theorem Bld.below {lo g : Nat} {w w' : World} {p v : Value} {X : List Nat} {w0 : World} (h : Bld lo w g p v X) (hb : Below w0.heap.size w0 w) (hk : Kept (fun i => i = g ∨ some i = v.ownBlock) w w') (hl : w0.heap.size ≤ lo) : Below w0.heap.size w0 w' :=
  Below.trans hb (hk.below hb.size (fun i hi q => by
    rcases q with rfl | q
    · have := h.lo; omega
    · have := (h.row.lt i q.symm).1; omega))
theorem bstr_any (lo g : Nat) (p v : Value) (X : List Nat) (w : World) (h : Bld lo w g p v X) (hx : ∀ b ∈ X, b < 256) :
    Calls Try.prog 30 #[.pointer (some ⟨g, 0, none⟩)] w fun e w' => e = .returned (.string (txt X)) ∧ Below lo w w' := by
  have hrow : w.ownsRow lo 5 1 v (Lib.byteCells (X.map UInt8.ofNat)).length (Lib.byteCells (X.map UInt8.ofNat)) := by
    rw [bytes_rows hx, rows8_len]
    exact h.row
  have hne : v.ownBlock ≠ some g := fun e => own_ne_ h.row h.cells (by decide) e.symm
  have hI : Lib.IsBuilderF 64 5 lo g (Lib.byteCells (X.map UInt8.ofNat)) w := Lib.IsBuilderF.of (h.ptr.imp (fun (e : p = .pointer none) => ⟨h.lo, v, by rw [← e]; exact h.cells, hrow, hne⟩) (fun (e : p = .pointer (some ⟨g, 0, none⟩)) => ⟨h.lo, v, by rw [← e]; exact h.cells, hrow, hne⟩))
  refine (Try.Builder_String_any_k lo g (X.map UInt8.ofNat) w hI (by have := h.lo; have := h.cells.lt; omega)).mono ?_
  rintro e w' ⟨rfl, -, hb, -⟩
  exact ⟨by rw [txt_mk], hb⟩
set_option maxRecDepth 100000 in
set_option maxHeartbeats 4000000 in
theorem print_any (A : Option Addr) (n c : Nat) (Ls : List StT) (w : World) (h : StRd w A n c Ls) (hn : n ≤ 2048) :
    Calls Try.prog 15 #[.slice A n c] w (GivesPr w (Ls.map sdT)) := by
  have H := Lib.hid h
  have Hl := Lib.hid (h.row.rlen stC_len (by decide))
  obtain ⟨X, gX⟩ : ∃ z, Ls.map sdT = z := ⟨_, rfl⟩
  have HXl : RowKit.Hid (X.length = n) := Lib.hid (by rw [← gX, List.length_map]; exact Hl.out)
  have HXat : RowKit.Hid (∀ (k : Nat) (x : StT), Ls[k]? = some x → X[k]? = some (sdT x)) := Lib.hid (fun k x hx => by rw [← gX, List.getElem?_map, hx]; rfl)
  rw [gX]
  have hn48 : decide ((2048 : Int) < (n : Int)) = false := decide_eq_false (by omega)
  have hn48b : decide (2048 < n) = false := decide_eq_false (by omega)
  clear h gX
  go_enter Try.func15, Try.ntmps15
  go_upto_region 5 with fail
  have hW : Whole (w.alloc (.cells #[.pointer none, .slice none 0 0] 64)) w.heap.size 64 [.pointer none, .slice none 0 0] := Whole.new_ _ _ [_, _]
  have hB : Below w.heap.size w (w.alloc (.cells #[.pointer none, .slice none 0 0] 64)) := below1 _ _
  obtain ⟨W0, gW0⟩ : ∃ z, w.alloc (.cells #[.pointer none, .slice none 0 0] 64) = z := ⟨_, rfl⟩
  obtain ⟨g, gg⟩ : ∃ z, w.heap.size = z := ⟨_, rfl⟩
  rw [gW0] at hW hB ⊢
  rw [gg] at hW ⊢
  have HG : RowKit.Hid (w.heap.size = g) := Lib.hid gg
  have HD0 : RowKit.Hid (Bld g W0 g (.pointer none) (.slice none 0 0) (prB (X.take 0))) := Lib.hid ⟨hW, .inl rfl, World.ownsRow_nil _ _ _ _, Nat.le_refl _⟩
  have HB0 : RowKit.Hid (Below w.heap.size w W0) := Lib.hid hB
  clear hW hB gW0 gg
  go_loopw [16] (fun i wr => ∃ (k : Nat) (p v : Value), k ≤ n ∧ i = .int .i64 (k : Int) ∧ RowKit.Hid (Bld g wr g p v (prB (X.take k))) ∧ RowKit.Hid (prE (X.take k) = 0) ∧ RowKit.Hid (Below w.heap.size w wr)) (fun i _ => n - (intOf i).toNat)
  case atStart => exact ⟨0, _, _, Nat.zero_le _, rfl, HD0, Lib.hid rfl, HB0⟩
  case round =>
    clear HD0 HB0
    obtain ⟨k, p, v, hk, rfl, HD, HE, HB⟩ := hrel
    obtain ⟨wo, gwo⟩ : ∃ z, wr = z := ⟨_, rfl⟩
    rw [gwo] at HD HB ⊢
    clear gwo
    by_cases hlt : k < n
    · have hltI : (k : Int) < (n : Int) := by omega
      obtain ⟨x, hx⟩ : ∃ x, Ls[k]? = some x := ⟨_, List.getElem?_eq_getElem (by have := Hl.out; omega)⟩
      have hox := (H.out.each x (List.mem_of_getElem? hx)).bl HB.out
      have hX := HXat.out k x hx
      obtain ⟨bb, off, rfl, hbB, hpl⟩ := (H.out.row.bl HB.out).place stC_len (by decide) (by omega)
      have HHo : RowKit.Hid (RdS (wo.alloc (.cells (stC x).toArray 30)) (wo.alloc (.cells (stC x).toArray 30)).heap.size 20 x.2.1 x.2.2.1 x.2.2.2.1 (rowsV opCells x.2.2.2.2)) := Lib.hid (hox.ops.al _)
      have HPu := Lib.hid (put23_any x (wo.alloc (.cells (stC x).toArray 30)) HHo.out hox.few)
      obtain ⟨⟨k1, k2, k3, k4⟩, Ax, nx, cx, Lx⟩ := x
      have l0 := hpl k _ hx 0 _ rfl
      have l1 := hpl k _ hx 1 _ rfl
      have l2 := hpl k _ hx 2 _ rfl
      have l3 := hpl k _ hx 3 _ rfl
      have l4 := hpl k _ hx 4 _ rfl
      simp only [Addr.add_lit, Nat.add_zero] at l0 l1 l2 l3 l4
      have HX := Lib.hid hX
      have HDa := Lib.hid (HD.out.bl (below1 wo (.cells #[.int .i64 k1, .int .i64 k2, .int .i64 k3, .int .i64 k4, .slice Ax nx cx] 30)))
      have HBa := Lib.hid (bel_al HB.out (.cells #[.int .i64 k1, .int .i64 k2, .int .i64 k3, .int .i64 k4, .slice Ax nx cx] 30))
      obtain ⟨sx, gsx⟩ : ∃ z, sdT ((k1, k2, k3, k4), Ax, nx, cx, Lx) = z := ⟨_, rfl⟩
      rw [gsx] at HX HPu
      clear hx hox hX hpl hbB HD HB HHo gsx
      go_wp2_with fail
      refine (HPu.out).mono ?_
      rintro e w3 ⟨Ap, cp, rfl, hop, hb3⟩
      have HDb := Lib.hid (HDa.out.bl hb3)
      have HBb := Lib.hid (bel_bl HBa.out hb3)
      have hlow := HDa.out.row.lt
      have hgl := HDa.out.cells.lt
      have HNo0 : RowKit.Hid (NoBl g v Ap (sdP sx).length) := Lib.hid (fun a ha h0 => by
        have h1 := (own_lt hop ha).1
        refine ⟨fun e => ?_, fun e => ?_⟩
        · rw [e] at h1; exact absurd hgl (Nat.not_lt.2 h1)
        · exact absurd (hlow a.block e.symm).2 (Nat.not_lt.2 h1))
      have HRb := Lib.hid (own_rds hop)
      clear hop hb3 HDa HBa HPu l0 l1 l2 l3 l4 hlow hgl
      by_cases he : sdE sx = 0
      · have hpx := sdP_ok he
        rw [hpx, he]
        rw [hpx] at HNo0 HRb
        have Hps := Lib.hid (sdB_lt sx)
        have HNx := Lib.hid (prB_next HX.out)
        have HEx := Lib.hid (prE_next HX.out HE.out he)
        have Hln := Lib.hid (lnB_len he)
        have Hpr := Lib.hid (prB_len _ HE.out)
        obtain ⟨P, gP⟩ : ∃ z, sdB sx = z := ⟨_, rfl⟩
        have HLn : RowKit.Hid (lnB sx = dgs P ++ [10]) := Lib.hid (by unfold lnB; rw [gP])
        have hP171 : P.length ≤ 171 := by rw [← gP]; exact (sdB_len he).2
        rw [gP] at HNo0 HRb Hps ⊢
        obtain ⟨m, gm⟩ : ∃ z, P.length = z := ⟨_, rfl⟩
        have Hpl : RowKit.Hid (P.length = m) := Lib.hid gm
        rw [gm] at HNo0 HRb hP171 ⊢
        obtain ⟨Y, gY⟩ : ∃ z, prB (X.take k) = z := ⟨_, rfl⟩
        rw [gY] at HDb HNx Hpr
        have HY7 : RowKit.Hid (Y.length ≤ 343 * 2048) := Lib.hid (by
          have h1 := Hpr.out
          have h2 : (X.take k).length ≤ 2048 := by rw [List.length_take]; omega
          omega)
        clear hpx gP gm gY he Hln Hpr HE
        go_upto_region 11 with fail
        obtain ⟨wi, gwi⟩ : ∃ z, w3 = z := ⟨_, rfl⟩
        rw [gwi] at HDb HBb HRb ⊢
        clear gwi
        have HDc : RowKit.Hid (Bld g wi g p v (Y ++ dgs (P.take 0))) := Lib.hid (by rw [show dgs (P.take 0) = [] from rfl, List.append_nil]; exact HDb.out)
        clear HDb
        go_loopw [30] (fun i wr => ∃ (q : Nat) (p v : Value), q ≤ m ∧ i = .int .i64 (q : Int) ∧ RowKit.Hid (Bld g wr g p v (Y ++ dgs (P.take q))) ∧ RowKit.Hid (RdS wr wr.heap.size 1 Ap m cp (rowsV f8 P)) ∧ RowKit.Hid (NoBl g v Ap m) ∧ RowKit.Hid (Below w.heap.size w wr)) (fun i _ => m - (intOf i).toNat)
        case atStart => exact ⟨0, p, v, Nat.zero_le _, rfl, HDc, HRb, HNo0, HBb⟩
        case round =>
          clear HDc HRb HNo0 HBb
          obtain ⟨q, p, v, hq, rfl, HD, HR, HNo, HB⟩ := hrel
          obtain ⟨wp, gwp⟩ : ∃ z, wr = z := ⟨_, rfl⟩
          rw [gwp] at HD HR HB ⊢
          clear gwp
          by_cases hql : q < m
          · have hqI : (q : Int) < (m : Int) := by omega
            obtain ⟨b, hx⟩ : ∃ b, P[q]? = some b := ⟨_, List.getElem?_eq_getElem (by have := Hpl.out; omega)⟩
            have hb8 : b < 256 := Hps.out b (List.mem_of_getElem? hx)
            have hN := dgs_next hx
            have hd1 : b / 16 < 16 := by omega
            have hd2 : b % 16 < 16 := by omega
            have hi1 := fun W => idx_hex .u8 (b / 16) hd1 W
            have hi2 := fun W => idx_hex .u8 (b % 16) hd2 W
            obtain ⟨h1, gh1⟩ : ∃ z, hxd (b / 16) = z := ⟨_, rfl⟩
            obtain ⟨h2, gh2⟩ : ∃ z, hxd (b % 16) = z := ⟨_, rfl⟩
            rw [gh1] at hN hi1
            rw [gh2] at hN hi2
            obtain ⟨d1, gd1⟩ : ∃ z, b / 16 = z := ⟨_, rfl⟩
            obtain ⟨d2, gd2⟩ : ∃ z, b % 16 = z := ⟨_, rfl⟩
            rw [gd1] at hi1
            rw [gd2] at hi2
            have q1b : (b : Int) / 16 = (d1 : Int) := by omega
            have q2 := and_15 b hb8
            rw [gd2] at q2
            obtain ⟨bb2, off2, hA, hbB, hpl⟩ := byte_at HR.out (by omega)
            subst hA
            have l0 := hpl q b hx
            have HN := Lib.hid hN
            have Hi2 := Lib.hid hi2
            have hYl : (Y ++ dgs (P.take q)).length ≤ 100000000 := by
              rw [List.length_append, dgs_len, List.length_take]
              have := HY7.out
              omega
            have hYl2 : ((Y ++ dgs (P.take q)) ++ [h1]).length ≤ 100000000 := by
              rw [List.length_append, List.length_append, dgs_len, List.length_take]
              have := HY7.out
              simp only [List.length_singleton]
              omega
            clear hpl hbB hN gh1 gh2 gd1 gd2 hd1 hd2 hx hb8 hi2
            go_wp2_with fail
            refine (wb_any g g p v _ h1 wp HD.out hYl).mono ?_
            rintro e w4 ⟨v4, rfl, hd4, hk4, ho4⟩
            have HD4 := Lib.hid hd4
            have HR4 := Lib.hid (HNo.out.keep HR.out hk4)
            have HNo4 := Lib.hid (HNo.out.on (w' := w4) HR.out ho4)
            have HB4 := Lib.hid (HD.out.below HB.out hk4 (Nat.le_of_eq HG.out))
            clear hd4 hk4 ho4 HD HR HNo HB l0 hi1 q1b
            have hi2 := Hi2.out
            go_wp2_with fail
            refine (wb_any g g _ v4 _ h2 w4 HD4.out hYl2).mono ?_
            rintro e w5 ⟨v5, rfl, hd5, hk5, ho5⟩
            have HD5 := Lib.hid hd5
            have HR5 := Lib.hid (HNo4.out.keep HR4.out hk5)
            have HNo5 := Lib.hid (HNo4.out.on (w' := w5) HR4.out ho5)
            have HB5 := Lib.hid (HD4.out.below HB4.out hk5 (Nat.le_of_eq HG.out))
            clear hd5 hk5 ho5 HD4 HR4 HNo4 HB4 hi2 q2
            go_wp2
            go_roundw
            case rel => exact ⟨q + 1, _, v5, by omega, by go_num, Lib.hid (by rw [HN.out]; have := HD5.out; simpa [List.append_assoc] using this), HR5, HNo5, HB5⟩
            case measure => simp [intOf]; omega
          · obtain rfl : m = q := by omega
            have hfull : P.take m = P := List.take_of_length_le (by rw [Hpl.out]; exact Nat.le_refl _)
            have hYl : (Y ++ dgs (P.take m)).length ≤ 100000000 := by
              rw [List.length_append, dgs_len, List.length_take]
              have := HY7.out
              omega
            have HF := Lib.hid hfull
            clear hfull
            go_wp2_with fail
            refine (wb_any g g p v _ 10 wp HD.out hYl).mono ?_
            rintro e w4 ⟨v4, rfl, hd4, hk4, -⟩
            have HB4 := Lib.hid (HD.out.below HB.out hk4 (Nat.le_of_eq HG.out))
            have HD4 : RowKit.Hid (Bld g w4 g (.pointer (some ⟨g, 0, none⟩)) v4 (prB (X.take (k + 1)))) := Lib.hid (by
              rw [HNx.out, HLn.out, ← List.append_assoc]
              rw [HF.out] at hd4
              exact hd4)
            clear hd4 hk4 HD HR HNo HB HNx HF
            go_wp2
            go_roundw
            case rel => exact ⟨k + 1, _, v4, by omega, by go_num, HD4, HEx, HB4⟩
            case measure => simp [intOf]; omega
      · have hbad := prE_bad HX.out HE.out he
        have HP : RowKit.Hid (GivesPr w X (.returned (.tuple #[.string { data := #[] }, .int .i64 (sdE sx)])) w3) := Lib.hid (by
          unfold GivesPr prS
          rw [hbad, if_neg he]
          exact ⟨rfl, HBb.out⟩)
        obtain ⟨e9, ge9⟩ : ∃ z, sdE sx = z := ⟨_, rfl⟩
        rw [ge9] at he HP ⊢
        have hq9 : (e9 != 0) = true := bne_iff_ne.2 he
        clear hbad ge9 he HDb HRb HNo0 HE
        go_wp2
        refine bodyPost_ret (v := .tuple #[.string { data := #[] }, .int .i64 e9]) (by simp [results, Try.results15, go_sem]) rfl ?_
        exact HP.out
    · obtain rfl : n = k := by omega
      have hfull : X.take n = X := List.take_of_length_le (by rw [HXl.out]; exact Nat.le_refl _)
      have hd := HD.out
      have he := HE.out
      rw [hfull] at hd he
      have HP : RowKit.Hid (∀ w4, Below g wo w4 → GivesPr w X (.returned (.tuple #[.string (txt (prB X)), .int .i64 0])) w4) := Lib.hid (fun w4 hb => by
        unfold GivesPr prS
        rw [he, if_pos rfl]
        exact ⟨rfl, HB.out.trans (by rw [HG.out]; exact hb)⟩)
      have HDz := Lib.hid hd
      clear hfull hd he HD HE
      go_wp2_with fail
      refine (bstr_any g g p v (prB X) wo HDz.out (prB_lt X)).mono ?_
      rintro e w4 ⟨rfl, hb4⟩
      have HQ := Lib.hid (HP.out w4 hb4)
      clear hb4 HP HDz
      go_wp2
      refine bodyPost_ret (v := .tuple #[.string (txt (prB X)), .int .i64 0]) (by simp [results, Try.results15, go_sem]) rfl ?_
      exact HQ.out
end Go.Proofs.Ytinfbaflkjghhaa
/- The document's Print; the document's example. -/
namespace Go.Proofs.Ytinfbaflkjghhaa
open Go.RowKit
def rnd0 : List Nat := [48, 48, 48, 48, 48, 48, 48, 48, 48, 48, 48, 48, 48, 48, 48, 98]
theorem round_any (w : World) : Calls Try.prog 19 #[] w fun e w' => e = .returned (.string (txt (rnd0 ++ List.replicate 48 48))) ∧ Below w.heap.size w w' := by
  have HB0 : RowKit.Hid (Below w.heap.size w w) := Lib.hid (Below.refl _ _)
  go_enter Try.func19, Try.ntmps19
  go_upto_region 3 with fail
  have HT0 : RowKit.Hid (({ data := #[48, 48, 48, 48, 48, 48, 48, 48, 48, 48, 48, 48, 48, 48, 48, 98] } : ByteArray) = txt (rnd0 ++ List.replicate 0 48)) := Lib.hid rfl
  go_loopw [1, 2] (fun s i wr => ∃ (k : Nat) (t : ByteArray), k ≤ 48 ∧ s = .string t ∧ i = .int .i64 (k : Int) ∧ RowKit.Hid (t = txt (rnd0 ++ List.replicate k 48)) ∧ RowKit.Hid (Below w.heap.size w wr)) (fun _ i _ => 48 - (intOf i).toNat)
  case atStart => exact ⟨0, _, Nat.zero_le _, rfl, rfl, HT0, HB0⟩
  case round =>
    clear HT0 HB0
    obtain ⟨k, t, hk, rfl, rfl, HT, HB⟩ := hrel
    by_cases hlt : k < 48
    · have hltI : (k : Int) < 48 := by omega
      have HT4 : RowKit.Hid (t ++ { data := #[48] } = txt (rnd0 ++ List.replicate (k + 1) 48)) := Lib.hid (by
        rw [HT.out, show (({ data := #[48] } : ByteArray)) = txt [48] from rfl, txt_app, List.append_assoc, List.replicate_succ'])
      have hts : t.size ≤ 100 := by rw [HT.out, txt_size]; simp [rnd0]; omega
      have hc1 : ¬ (9223372036854775807 : Int) < ((t.size + 1 : Nat) : Int) := by omega
      have hd1 : ¬ 9223372036854775807 < t.size + 1 := by omega
      have he1 : ¬ (9223372036854775807 : Int) < (((t.size : Nat) : Int) + ((1 : Nat) : Int)) := by omega
      clear HT
      go_wp2
      go_roundw
      case rel => exact ⟨k + 1, _, by omega, rfl, by go_num, HT4, HB⟩
      case measure => simp [intOf]; omega
    · obtain rfl : 48 = k := by omega
      go_wp2
      go_ret
      exact ⟨by rw [← HT.out]; rfl, HB.out⟩
theorem shown23_any (w : World) : Calls Try.prog 8 #[] w fun e w' => e = .returned (.bool true) ∧ Below w.heap.size w w' := by
  have hv : prS [((11, 0, 0, 0), [])] = rnd0 ++ List.replicate 48 48 ++ [10] := by decide +kernel
  have he : prE [((11, 0, 0, 0), [])] = 0 := rfl
  have HV := Lib.hid hv
  have hW : Whole (w.alloc (.cells #[.int .i64 11, .int .i64 0, .int .i64 0, .int .i64 0, .slice none 0 0] 30)) w.heap.size 30 [.int .i64 11, .int .i64 0, .int .i64 0, .int .i64 0, .slice none 0 0] := Whole.new_ _ _ [_, _, _, _, _]
  have hS : StRd (w.alloc (.cells #[.int .i64 11, .int .i64 0, .int .i64 0, .int .i64 0, .slice none 0 0] 30)) (some ⟨w.heap.size, 0, none⟩) 1 1 [((11, 0, 0, 0), (none, 0, 0, []))] :=
    ⟨by rw [rowsS1]; exact RdS.of_whole8 hW rfl, fun s hs => by
      obtain rfl := List.mem_singleton.1 hs
      exact ⟨rds_nil _ _ _, by decide, fun o ho => (by cases ho), by unfold In4 In64; simp⟩⟩
  have HP := Lib.hid (print_any (some ⟨w.heap.size, 0, none⟩) 1 1 [((11, 0, 0, 0), (none, 0, 0, []))] _ hS (by decide))
  have HB0 : RowKit.Hid (Below w.heap.size w (w.alloc (.cells #[.int .i64 11, .int .i64 0, .int .i64 0, .int .i64 0, .slice none 0 0] 30))) := Lib.hid (below1 _ _)
  clear hv hW hS he
  go_enter Try.func8, Try.ntmps8
  go_wp2_with fail
  refine HP.out.mono ?_
  rintro e w1 ⟨rfl, hb1⟩
  rw [show ([((11, 0, 0, 0), (none, 0, 0, []))] : List StT).map sdT = [((11, 0, 0, 0), [])] from rfl, HV.out, show prE [((11, 0, 0, 0), [])] = 0 from rfl]
  have HB1 := Lib.hid (bel_bl HB0.out hb1)
  clear hb1 HP HB0
  obtain ⟨t1, gt1⟩ : ∃ z, txt (rnd0 ++ List.replicate 48 48 ++ [10]) = z := ⟨_, rfl⟩
  rw [gt1]
  have G1 := Lib.hid gt1
  clear gt1
  go_wp2_with fail
  refine (round_any w1).mono ?_
  rintro e w2 ⟨rfl, hb2⟩
  have HB2 := Lib.hid (bel_bl HB1.out hb2)
  have HT : RowKit.Hid (txt (rnd0 ++ List.replicate 48 48) ++ { data := #[10] } = t1) := Lib.hid (by
    rw [show (({ data := #[10] } : ByteArray)) = txt [10] from rfl, txt_app]
    exact G1.out)
  obtain ⟨t2, gt2⟩ : ∃ z, txt (rnd0 ++ List.replicate 48 48) = z := ⟨_, rfl⟩
  rw [gt2] at HT ⊢
  have ht := HT.out
  have hts : t2.size ≤ 100 := by rw [← gt2, txt_size]; decide
  have hc1 : ¬ (9223372036854775807 : Int) < ((t2.size + 1 : Nat) : Int) := by omega
  have hd1 : ¬ 9223372036854775807 < t2.size + 1 := by omega
  have he1 : ¬ (9223372036854775807 : Int) < (((t2.size : Nat) : Int) + ((1 : Nat) : Int)) := by omega
  clear gt2 hb2 HB1 G1
  go_wp2
  go_ret
  exact ⟨rfl, HB2.out⟩
end Go.Proofs.Ytinfbaflkjghhaa
/- OpcodeTakes' walk. -/
namespace Go.Proofs.Ytinfbaflkjghhaa
open Go.RowKit
end Go.Proofs.Ytinfbaflkjghhaa
/- ScriptSteps. -/
namespace Go.Proofs.Ytinfbaflkjghhaa
open Go.RowKit
theorem gives_s {w w' : World} {k1 k2 k3 k4 y : Int} {V : List OpT} {e : Ending} (h : GivesS w ((k1, k2, k3, k4), V) y e w') : ∃ A n c, e = .returned (.tuple #[.agg #[.int .i64 k1, .int .i64 k2, .int .i64 k3, .int .i64 k4, .slice A n c], .int .i64 y]) ∧ n = V.length ∧ w'.ownsRow w.heap.size 53 20 (.slice A n c) n (rowsV opCells V) ∧ Below w.heap.size w w' := by
  obtain ⟨A, n, c, h1, h2⟩ := h
  exact ⟨A, n, c, h1, h2⟩
end Go.Proofs.Ytinfbaflkjghhaa
/- ScriptApart. -/
namespace Go.Proofs.Ytinfbaflkjghhaa
open Go.RowKit
theorem tkS_no {L : List Nat} (h : okS L = false) : tkS L = ((0, 0, 0, 0), []) ∧ tkSE L = 240 := tk_no h
/-- What is told of bytes that are none. -/
theorem take_none (A : Option Addr) (n c : Nat) (L : List Nat) (w : World) (hl : L.length = n) (h : RdS w w.heap.size 1 A n c (rowsV f8 L)) (hn : n ≤ 90000) (hb : ∀ b ∈ L, b < 256) (ho : okS L = false) :
    Calls Try.prog 10 #[.slice A n c] w fun e w' => ∃ A' n' c', e = .returned (.tuple #[.agg #[.int .i64 0, .int .i64 0, .int .i64 0, .int .i64 0, .slice A' n' c'], .int .i64 240]) ∧ Below w.heap.size w w' := by
  refine (take23_any A n c L w hl h hn hb).mono ?_
  intro e w' hg
  rw [(tkS_no ho).1, (tkS_no ho).2] at hg
  obtain ⟨A', n', c', h1, -, -, h4⟩ := gives_s hg
  exact ⟨A', n', c', h1, h4⟩
set_option maxRecDepth 100000 in
set_option maxHeartbeats 4000000 in
theorem law_apart (x y : StT) (w : World) (hx : RdS w w.heap.size 20 x.2.1 x.2.2.1 x.2.2.2.1 (rowsV opCells x.2.2.2.2)) (hy : RdS w w.heap.size 20 y.2.1 y.2.2.1 y.2.2.2.1 (rowsV opCells y.2.2.2.2)) (hix : In4 x.1) (hiy : In4 y.1) :
    Calls Try.prog 7 #[.agg (stC x).toArray, .agg (stC y).toArray] w fun e w' => e = .returned (.bool true) ∧ Below w.heap.size w w' := by
  obtain ⟨⟨k1, k2, k3, k4⟩, A, n, c, L⟩ := x
  obtain ⟨⟨l1, l2, l3, l4⟩, B, m, d, M⟩ := y
  show Calls Try.prog 7 #[.agg #[.int .i64 k1, .int .i64 k2, .int .i64 k3, .int .i64 k4, .slice A n c], .agg #[.int .i64 l1, .int .i64 l2, .int .i64 l3, .int .i64 l4, .slice B m d]] w _
  have HXo : RowKit.Hid (RdS w w.heap.size 20 A n c (rowsV opCells L)) := Lib.hid hx
  have HYo : RowKit.Hid (RdS w w.heap.size 20 B m d (rowsV opCells M)) := Lib.hid hy
  have Hix := Lib.hid hix
  have Hiy := Lib.hid hiy
  clear hx hy hix hiy
  go_enter Try.func7, Try.ntmps7
  go_wp2_with fail
  have hx0 : Whole ((w.alloc (.cells #[.int .i64 k1, .int .i64 k2, .int .i64 k3, .int .i64 k4, .slice A n c] 30)).alloc (.cells #[.int .i64 l1, .int .i64 l2, .int .i64 l3, .int .i64 l4, .slice B m d] 30)) (w.heap.size) 30 [.int .i64 k1, .int .i64 k2, .int .i64 k3, .int .i64 k4, .slice A n c] := ((Whole.new_ w 30 [.int .i64 k1, .int .i64 k2, .int .i64 k3, .int .i64 k4, .slice A n c]).alloc (.cells #[.int .i64 l1, .int .i64 l2, .int .i64 l3, .int .i64 l4, .slice B m d] 30))
  have hx1 : Whole ((w.alloc (.cells #[.int .i64 k1, .int .i64 k2, .int .i64 k3, .int .i64 k4, .slice A n c] 30)).alloc (.cells #[.int .i64 l1, .int .i64 l2, .int .i64 l3, .int .i64 l4, .slice B m d] 30)) (w.heap.size + 1) 30 [.int .i64 l1, .int .i64 l2, .int .i64 l3, .int .i64 l4, .slice B m d] := (Whole.new2 (w := (w.alloc (.cells #[.int .i64 k1, .int .i64 k2, .int .i64 k3, .int .i64 k4, .slice A n c] 30))) (by simp))
  have hbl : Below w.heap.size w ((w.alloc (.cells #[.int .i64 k1, .int .i64 k2, .int .i64 k3, .int .i64 k4, .slice A n c] 30)).alloc (.cells #[.int .i64 l1, .int .i64 l2, .int .i64 l3, .int .i64 l4, .slice B m d] 30)) := (bel_al (below1 w (.cells #[.int .i64 k1, .int .i64 k2, .int .i64 k3, .int .i64 k4, .slice A n c] 30)) (.cells #[.int .i64 l1, .int .i64 l2, .int .i64 l3, .int .i64 l4, .slice B m d] 30))
  have hsz : w.heap.size + 1 + 1 ≤ (((w.alloc (.cells #[.int .i64 k1, .int .i64 k2, .int .i64 k3, .int .i64 k4, .slice A n c] 30)).alloc (.cells #[.int .i64 l1, .int .i64 l2, .int .i64 l3, .int .i64 l4, .slice B m d] 30))).heap.size := by simp
  obtain ⟨W0, gW0⟩ : ∃ z, ((w.alloc (.cells #[.int .i64 k1, .int .i64 k2, .int .i64 k3, .int .i64 k4, .slice A n c] 30)).alloc (.cells #[.int .i64 l1, .int .i64 l2, .int .i64 l3, .int .i64 l4, .slice B m d] 30)) = z := ⟨_, rfl⟩
  rw [gW0] at hx0 hx1 hbl hsz
  obtain ⟨b1, gb1⟩ : ∃ z, w.heap.size + 1 = z := ⟨_, rfl⟩
  rw [gb1] at hx1
  obtain ⟨b0, gb0⟩ : ∃ z, w.heap.size = z := ⟨_, rfl⟩
  rw [gb0] at hx0
  have HX0 := Lib.hid hx0
  have HX1 := Lib.hid hx1
  have HB0 := Lib.hid hbl
  have HS0 := Lib.hid hsz
  have Gb0 := Lib.hid gb0
  have Lb0 : RowKit.Hid (w.heap.size ≤ b0) := Lib.hid (by omega)
  have Gb1 := Lib.hid gb1
  have Lb1 : RowKit.Hid (w.heap.size ≤ b1) := Lib.hid (by omega)
  have N01 : RowKit.Hid (b0 ≠ b1) := Lib.hid (by omega)
  rw [gW0, gb1, gb0]
  clear gW0 hbl hsz hx0 hx1 gb0 gb1
  refine (shown23_any W0).mono ?_
  rintro e w1 ⟨rfl, hb1⟩
  have HB1 := Lib.hid (bel_bl HB0.out hb1)
  have HX := Lib.hid (HX0.out.bl hb1)
  have HY := Lib.hid (HX1.out.bl hb1)
  clear hb1 HB0 HX0 HX1
  have x0 := HX.out.cell (i := 0) rfl
  have x1 := HX.out.cell (i := 1) rfl
  have x2 := HX.out.cell (i := 2) rfl
  have x3 := HX.out.cell (i := 3) rfl
  have x4 := HX.out.cell (i := 4) rfl
  have y0 := HY.out.cell (i := 0) rfl
  have y1 := HY.out.cell (i := 1) rfl
  have y2 := HY.out.cell (i := 2) rfl
  have y3 := HY.out.cell (i := 3) rfl
  have y4 := HY.out.cell (i := 4) rfl
  go_wp2_with fail
  clear x0 x1 x2 x3 x4 y0 y1 y2 y3 y4 HX HY
  have hw2 : RdS (w1.alloc (.cells #[.int .i64 k1, .int .i64 k2, .int .i64 k3, .int .i64 k4, .slice A n c, .int .i64 l1, .int .i64 l2, .int .i64 l3, .int .i64 l4, .slice B m d] 30)) (w1.alloc (.cells #[.int .i64 k1, .int .i64 k2, .int .i64 k3, .int .i64 k4, .slice A n c, .int .i64 l1, .int .i64 l2, .int .i64 l3, .int .i64 l4, .slice B m d] 30)).heap.size 5 (some ⟨w1.heap.size, 0, none⟩) 2 2 (rowsV stC [((k1, k2, k3, k4), (A, n, c, L)), ((l1, l2, l3, l4), (B, m, d, M))]) := RdS.of_whole8 (Whole.new_ _ _ [_, _, _, _, _, _, _, _, _, _]) rfl
  have hbb := bel_al HB1.out (.cells #[.int .i64 k1, .int .i64 k2, .int .i64 k3, .int .i64 k4, .slice A n c, .int .i64 l1, .int .i64 l2, .int .i64 l3, .int .i64 l4, .slice B m d] 30)
  refine (few23_any (some ⟨w1.heap.size, 0, none⟩) 2 2 [((k1, k2, k3, k4), (A, n, c, L)), ((l1, l2, l3, l4), (B, m, d, M))] _ hw2 (fun s hs => ?_) (by unfold maxLen; omega)).mono ?_
  · simp only [List.mem_cons, List.not_mem_nil, or_false] at hs
    rcases hs with rfl | rfl
    · exact HXo.out.bl hbb
    · exact HYo.out.bl hbb
  rintro e w2 ⟨A2, c2, Ts, N, rfl, hN, hTm, hSt, hf8, hb2⟩
  have HTs := Lib.hid (few_rd hSt hf8 hTm (fun s hs => by
    simp only [List.map_cons, List.map_nil, List.mem_cons, List.not_mem_nil, or_false] at hs
    rcases hs with rfl | rfl
    · exact Hix.out
    · exact Hiy.out))
  have HB2 := Lib.hid (bel_bl hbb hb2)
  have hTl : Ts.length = 2 := by have := congrArg List.length hTm; rw [List.length_map] at this; rw [this]; rfl
  have hN2 : N = 2 := (HTs.out.row.rlen stC_len (by decide)).symm.trans hTl
  obtain ⟨t0, t1, rfl⟩ : ∃ t0 t1, Ts = [t0, t1] := by
    match Ts, hTl with
    | [t0, t1], _ => exact ⟨t0, t1, rfl⟩
  have h0N : (0 : Int) < (N : Int) := by omega
  have h1N : (1 : Int) < (N : Int) := by omega
  have HO0 := Lib.hid (HTs.out.each t0 List.mem_cons_self)
  have HO1 := Lib.hid (HTs.out.each t1 (List.mem_cons_of_mem _ List.mem_cons_self))
  have HN2 := Lib.hid hN2
  have hNp : 0 < N := by omega
  clear hw2 hbb hb2 hSt hf8 hTm hN hTl HXo HYo Hix Hiy HB1
  obtain ⟨⟨p1, p2, p3, p4⟩, Ap, np, cp, Lp⟩ := t0
  obtain ⟨⟨q1, q2, q3, q4⟩, Aq, nq, cq, Lq⟩ := t1
  have HT0 : RowKit.Hid (([((p1, p2, p3, p4), (Ap, np, cp, Lp)), ((q1, q2, q3, q4), (Aq, nq, cq, Lq))] : List StT)[0]? = some ((p1, p2, p3, p4), (Ap, np, cp, Lp))) := Lib.hid rfl
  have HT1 : RowKit.Hid (([((p1, p2, p3, p4), (Ap, np, cp, Lp)), ((q1, q2, q3, q4), (Aq, nq, cq, Lq))] : List StT)[1]? = some ((q1, q2, q3, q4), (Aq, nq, cq, Lq))) := Lib.hid rfl
  have HPu := Lib.hid (put23_any ((p1, p2, p3, p4), (Ap, np, cp, Lp)) w2 HO0.out.ops HO0.out.few)
  have HQu := Lib.hid (fun W (h : StOk W ((q1, q2, q3, q4), (Aq, nq, cq, Lq))) => put23_any ((q1, q2, q3, q4), (Aq, nq, cq, Lq)) W h.ops h.few)
  have HI0 : RowKit.Hid (In4 (p1, p2, p3, p4)) := Lib.hid HO0.out.hd
  have HI1 : RowKit.Hid (In4 (q1, q2, q3, q4)) := Lib.hid HO1.out.hd
  obtain ⟨bb, off, hA2, hbB, -⟩ := HTs.out.row.place stC_len (by decide) hNp
  subst hA2
  have HPl := Lib.hid (fun (W : World) (hW : RdS W W.heap.size 5 (some ⟨bb, off, none⟩) N c2 (rowsV stC [((p1, p2, p3, p4), (Ap, np, cp, Lp)), ((q1, q2, q3, q4), (Aq, nq, cq, Lq))])) => (fun k x (hx : ([((p1, p2, p3, p4), (Ap, np, cp, Lp)), ((q1, q2, q3, q4), (Aq, nq, cq, Lq))] : List StT)[k]? = some x) => RdS.elem stC_len hW hx))
  have hpl := HPl.out w2 HTs.out.row
  have l0 := hpl 0 _ HT0.out 0 _ rfl
  have l1 := hpl 0 _ HT0.out 1 _ rfl
  have l2 := hpl 0 _ HT0.out 2 _ rfl
  have l3 := hpl 0 _ HT0.out 3 _ rfl
  have l4 := hpl 0 _ HT0.out 4 _ rfl
  simp only [Addr.add_lit, Nat.zero_mul, Nat.one_mul, Nat.add_zero] at l0 l1 l2 l3 l4
  clear hpl hbB hN2
  go_wp2_with fail
  refine (HPu.out).mono ?_
  rintro e w3 ⟨A3, c3, rfl, ho3, hb3⟩
  have HTs3 := Lib.hid (HTs.out.bl hb3)
  have HO13 := Lib.hid (HO1.out.bl hb3)
  have HB3 := Lib.hid (bel_bl HB2.out hb3)
  have HR3 := Lib.hid (own_rds ho3)
  clear l0 l1 l2 l3 l4 ho3 hb3 HTs HO0 HO1 HB2 HPu
  have hpl := HPl.out w3 HTs3.out.row
  have l0 := hpl 1 _ HT1.out 0 _ rfl
  have l1 := hpl 1 _ HT1.out 1 _ rfl
  have l2 := hpl 1 _ HT1.out 2 _ rfl
  have l3 := hpl 1 _ HT1.out 3 _ rfl
  have l4 := hpl 1 _ HT1.out 4 _ rfl
  simp only [Addr.add_lit, Nat.zero_mul, Nat.one_mul, Nat.add_zero] at l0 l1 l2 l3 l4
  clear hpl
  go_wp2_with fail
  refine (HQu.out w3 HO13.out).mono ?_
  rintro e w4 ⟨A4, c4, rfl, ho4, hb4⟩
  have HTs4 := Lib.hid (HTs3.out.bl hb4)
  have HB4 := Lib.hid (bel_bl HB3.out hb4)
  have HR4 := Lib.hid (HR3.out.bl hb4)
  have HS4 := Lib.hid (own_rds ho4)
  clear l0 l1 l2 l3 l4 ho4 hb4 HTs3 HO13 HB3 HR3 HQu HPl
  obtain ⟨s0, gs0⟩ : ∃ z, sdT ((p1, p2, p3, p4), (Ap, np, cp, Lp)) = z := ⟨_, rfl⟩
  obtain ⟨s1, gs1⟩ : ∃ z, sdT ((q1, q2, q3, q4), (Aq, nq, cq, Lq)) = z := ⟨_, rfl⟩
  rw [gs0] at HR4 ⊢
  rw [gs1] at HS4 ⊢
  have Gs := Lib.hid (And.intro gs0 gs1)
  have HI0' : RowKit.Hid (In4 s0.1) := Lib.hid (by rw [← gs0]; exact HI0.out)
  have HI1' : RowKit.Hid (In4 s1.1) := Lib.hid (by rw [← gs1]; exact HI1.out)
  clear gs0 gs1 HI0 HI1
  by_cases he0 : sdE s0 = 0
  · by_cases he1 : sdE s1 = 0
    · have hpx := sdP_ok he0
      have hpy := sdP_ok he1
      have hl0 := sdB_len he0
      have Hin := Lib.hid (sdB_inj HI0'.out HI1'.out he0 he1)
      have Hte := Lib.hid (txt_eq (sdB_lt s0) (sdB_lt s1))
      have Hmo := Lib.hid (okS_more he0 0)
      have Hle := Lib.hid (okS_less he0)
      have Hlt := Lib.hid (sdB_lt s0)
      rw [hpx] at HR4 ⊢
      rw [hpy] at HS4 ⊢
      rw [he0, he1]
      obtain ⟨P, gP⟩ : ∃ z, sdB s0 = z := ⟨_, rfl⟩
      obtain ⟨Q, gQ⟩ : ∃ z, sdB s1 = z := ⟨_, rfl⟩
      rw [gP] at HR4 hl0 Hin Hte Hmo Hle Hlt ⊢
      rw [gQ] at HS4 Hin Hte ⊢
      obtain ⟨np', gnp⟩ : ∃ z, P.length = z := ⟨_, rfl⟩
      obtain ⟨nq', gnq⟩ : ∃ z, Q.length = z := ⟨_, rfl⟩
      have Gnp := Lib.hid gnp
      rw [gnp] at HR4 hl0 Hle ⊢
      rw [gnq] at HS4 ⊢
      obtain ⟨bq, gbq⟩ : ∃ z, decide (s0 = s1) = z := ⟨_, rfl⟩
      rw [gbq] at Hin
      have Gbq := Lib.hid gbq
      have Hcap : RowKit.Hid (1 ≤ c2) := Lib.hid (by have := HTs4.out.row.le; omega)
      have Hn1 : RowKit.Hid (1 ≤ N) := Lib.hid (by omega)
      obtain ⟨As, gAs⟩ : ∃ z, (if c2 = 1 then (some ⟨bb, off, none⟩ : Option Addr) else (some ⟨bb, off, none⟩ : Option Addr).map (·.add (1 * 5))) = z := ⟨_, rfl⟩
      obtain ⟨cs, gcs⟩ : ∃ z, c2 - 1 = z := ⟨_, rfl⟩
      have HAs := Lib.hid gAs
      have Hgc := Lib.hid gcs
      have Hgm : RowKit.Hid (N - 1 = 1) := Lib.hid (by rw [HN2.out])
      have hS1 : StRd w4 (some ⟨bb, off, none⟩) 1 c2 [((p1, p2, p3, p4), (Ap, np, cp, Lp))] := ⟨HTs4.out.row.take_ 1 Hn1.out, fun s hs => HTs4.out.each s (by obtain rfl := List.mem_singleton.1 hs; exact List.mem_cons_self)⟩
      have hS2 : StRd w4 As 1 cs [((q1, q2, q3, q4), (Aq, nq, cq, Lq))] := ⟨by
        have h9 := HTs4.out.row.low_ Hn1.out
        rw [gAs, gcs, Hgm.out] at h9
        exact h9, fun s hs => HTs4.out.each s (by obtain rfl := List.mem_singleton.1 hs; exact List.mem_cons_of_mem _ List.mem_cons_self)⟩
      have HSm : RowKit.Hid (∀ w', Ext w4.drew w' → Calls Try.prog 12 #[.slice (some ⟨bb, off, none⟩) 1 c2, .slice As 1 cs] w' fun e w'' => e = .returned (.bool bq) ∧ Below w'.heap.size w' w'') := Lib.hid (fun w' hw' => by
        have h9 := rsame23_any _ 1 c2 _ As 1 cs _ w' ((hS1.bl (bel_dr (Below.refl w4.heap.size w4))).bl hw') ((hS2.bl (bel_dr (Below.refl w4.heap.size w4))).bl hw') (by decide)
        rw [show decide (List.map sdT [((p1, p2, p3, p4), (Ap, np, cp, Lp))] = List.map sdT [((q1, q2, q3, q4), (Aq, nq, cq, Lq))]) = bq from by rw [← Gbq.out]; simp [Gs.out.1, Gs.out.2]] at h9
        exact h9)
      have hnp0 : ((np' : Int) == 0) = false := beq_eq_false_iff_ne.2 (by omega)
      clear hpx hpy gP gQ gnp gnq gbq gAs gcs hS1 hS2 HTs4 he0 he1
      go_upto_region 7 with fail
      refine wp_region_reg (Nil_) (by kernel_rfl) ?_
      refine opR_ 0 55 (v := ?_) ?_ ?_; rotate_left
      · intro w' hw'; go_simp; (try with_reducible rfl)
      simp only [st0_, st1_]
      refine opX_ 1 56 ?_
      apply Exists.intro
      apply And.intro
      · apply yr_run; rfl; intro w' hw'; exact exec_slice_high 22 30 (.tmp 55) (.const (.int .i64 1)) rfl Try.underlying22 (s := 5) (by kernel_rfl) rfl rfl Hcap.out
      simp only [st0_, st1_]
      refine opR_ 2 57 (v := ?_) ?_ ?_; rotate_left
      · intro w' hw'; go_simp; (try with_reducible rfl)
      simp only [st0_, st1_]
      refine opX_ 3 58 ?_
      apply Exists.intro
      apply And.intro
      · apply yr_run; rfl; intro w' hw'; exact exec_slice_low_as 22 30 (.tmp 57) (.const (.int .i64 1)) rfl Try.underlying22 (s := 5) (by kernel_rfl) rfl rfl Hn1.out HAs.out Hgm.out Hgc.out
      simp only [st0_, st1_]
      refine opX_ 4 59 ?_
      apply Exists.intro
      apply And.intro
      · apply yr_call; rfl; rotate_left; intro w' hw'; exact HSm.out w' (hw'.ext_nil); intro w'; go_simp
      simp only [st0_, st1_]
      refine opR_ 5 11 (v := ?_) ?_ ?_; rotate_left
      · intro w' hw'; go_simp; (try with_reducible rfl)
      simp only [st0_, st1_]
      refine wpR_done (by kernel_rfl) ?_ _
      intro w5 hw5
      have hw6 := bel_bl (bel_dr (Below.refl w4.heap.size w4)) hw5
      have HB5 := Lib.hid (bel_bl HB4.out hw6)
      have HR5 := Lib.hid (HR4.out.bl hw6)
      have HS5 := Lib.hid (HS4.out.bl hw6)
      clear hw5 hw6 HSm HR4 HS4 HB4 HAs Hgc Hgm Hcap Hn1 hnp0
      have hO0 : Ow w5 w5.heap.size 5 1 (.slice (some ⟨w5.heap.size, 0, none⟩) 0 0) 0 (rowsV f8 []) (w5.alloc (.cells #[] 5)) := Ow.new_ (cs := #[]) (Below.refl _ _) (Nat.le_refl _) (Nat.le_refl _) (Nat.zero_le _) rfl
      obtain ⟨A16, c16, w16, hrun16, ho16, -⟩ := app8 23 hO0 (HR5.out.al (.cells #[] 5)) (by omega)
      rw [Nat.zero_add, List.nil_append] at ho16
      rw [Nat.zero_add] at hrun16
      obtain ⟨A17, c17, w17, hrun17, ho17, -⟩ := app8 23 (ho16.up (below1 w16 (.cells #[.int .u8 ((0 : Nat) : Int)] 5))) (one8 w16 0) (by omega)
      have HW2h := Lib.hid (take_none A17 (np' + 1) c17 (P ++ [0]) w17 (by rw [List.length_append, Gnp.out]; rfl) (own_rds ho17.own) (by omega) (fun b hb => by
        rcases List.mem_append.1 hb with hb | hb
        · exact Hlt.out b hb
        · rw [List.mem_singleton.1 hb]; omega) Hmo.out)
      have HB17 := Lib.hid (bel_bl HB5.out ho17.below)
      have HR17 := Lib.hid (HR5.out.bl ho17.below)
      have HS17 := Lib.hid (HS5.out.bl ho17.below)
      clear hO0 ho16 ho17 HB5 HR5 HS5
      go_upto_region 9 with (first
        | (at_builtin
           refine wl_run (some 63) rfl (by rfl) (exec_append (by rfl) (by rfl) (by rfl) hrun16) ?_
           clear hrun16)
        | (at_builtin
           refine wl_run (some 65) rfl (by rfl) (exec_append (by rfl) (by rfl) (by rfl) hrun17) ?_
           clear hrun17)
        | (go_at_call 10
           refine HW2h.out.mono ?_
           rintro e w18 ⟨A18, n18, c18, rfl, hb⟩
           have HB18 := Lib.hid (bel_al (bel_bl HB17.out hb) (.cells #[.int .i64 0, .int .i64 0, .int .i64 0, .int .i64 0, .slice A18 n18 c18] 30))
           have HR18 := Lib.hid ((HR17.out.bl hb).al (.cells #[.int .i64 0, .int .i64 0, .int .i64 0, .int .i64 0, .slice A18 n18 c18] 30))
           have HS18 := Lib.hid ((HS17.out.bl hb).al (.cells #[.int .i64 0, .int .i64 0, .int .i64 0, .int .i64 0, .slice A18 n18 c18] 30))
           clear hb))
      clear HB17 HR17 HS17 HW2h
      obtain ⟨w19, gw19⟩ : ∃ z, w18.alloc (.cells #[.int .i64 0, .int .i64 0, .int .i64 0, .int .i64 0, .slice A18 n18 c18] 30) = z := ⟨_, rfl⟩
      obtain ⟨b19, gb19⟩ : ∃ z, w18.heap.size = z := ⟨_, rfl⟩
      rw [gw19] at HB18 HR18 HS18 ⊢
      rw [gb19]
      clear gw19 gb19
      obtain ⟨n1, gn1⟩ : ∃ z, np' - 1 = z := ⟨_, rfl⟩
      have e1 : (np' : Int) - 1 = (n1 : Int) := by omega
      have e2 : IntKind.i64.wrap (n1 : Int) = (n1 : Int) := IntWalk.i64_in _ (by omega)
      have hn1c : n1 ≤ c3 := by have := HR18.out.le; omega
      have hn1p : n1 ≤ np' := by omega
      rw [gn1] at Hle
      have HW3 := Lib.hid (take_none A3 n1 c3 (P.take n1) w19 (by rw [List.length_take, Gnp.out]; omega) (by
        have h9 := HR18.out.take_ n1 hn1p
        rw [rowsV_take f8 f8_len]
        exact h9) (by omega) (fun b hb => Hlt.out b (List.mem_of_mem_take hb)) Hle.out)
      have hnp32 : (32 : Int) ≤ (np' : Int) := by omega
      clear gn1 Hle
      go_wp2_with fail
      clear e1 e2
      refine HW3.out.mono ?_
      rintro e w20 ⟨A20, n20, c20, rfl, hb⟩
      have HB20 := Lib.hid (bel_al (bel_bl HB18.out hb) (.cells #[.int .i64 0, .int .i64 0, .int .i64 0, .int .i64 0, .slice A20 n20 c20] 30))
      have hc1 := conv_txt ((HR18.out.bl hb).al (.cells #[.int .i64 0, .int .i64 0, .int .i64 0, .int .i64 0, .slice A20 n20 c20] 30))
      have hc2 := conv_txt ((HS18.out.bl hb).al (.cells #[.int .i64 0, .int .i64 0, .int .i64 0, .int .i64 0, .slice A20 n20 c20] 30))
      have hte := Hte.out.trans Hin.out
      obtain ⟨u1, gu1⟩ : ∃ z, txt P = z := ⟨_, rfl⟩
      obtain ⟨u2, gu2⟩ : ∃ z, txt Q = z := ⟨_, rfl⟩
      rw [gu1] at hc1 hte
      rw [gu2] at hc2 hte
      clear hb HB18 HR18 HS18 HW3 gu1 gu2
      cases bq with
      | true =>
        go_wp2
        go_ret
        exact ⟨by simp, HB20.out⟩
      | false =>
        go_wp2
        go_ret
        exact ⟨by simp, HB20.out⟩
    · obtain ⟨e0, ge0⟩ : ∃ z, sdE s0 = z := ⟨_, rfl⟩
      obtain ⟨e1, ge1⟩ : ∃ z, sdE s1 = z := ⟨_, rfl⟩
      rw [ge0] at he0 ⊢
      rw [ge1] at he1 ⊢
      subst he0
      have hq1 : (e1 != 0) = true := bne_iff_ne.2 he1
      clear ge0 ge1 he1 HTs4 HR4 HS4
      go_wp2
      go_ret
      exact ⟨by simp, HB4.out⟩
  · obtain ⟨e0, ge0⟩ : ∃ z, sdE s0 = z := ⟨_, rfl⟩
    obtain ⟨e1, ge1⟩ : ∃ z, sdE s1 = z := ⟨_, rfl⟩
    rw [ge0] at he0 ⊢
    rw [ge1]
    have hq0 : (e0 != 0) = true := bne_iff_ne.2 he0
    clear ge0 ge1 he0 HTs4 HR4 HS4
    go_wp2
    go_ret
    exact ⟨by simp, HB4.out⟩
end Go.Proofs.Ytinfbaflkjghhaa
/- Out of XOp13, XOpTy -/
namespace Go.Proofs.Ytinfbaflkjghhaa
open Go.RowKit
def idCells (p : Int × Int) : List Value := [.int .i64 p.1, .int .i64 p.2]
theorem row1_id (H : Type) : Row1 H Try.prog 47 idCells (fun _ _ => True) :=
  (row1_struct Try.underlying47 (by kernel_rfl) (fields_cons (k := 1) (row1_int Try.underlying3) rfl (by kernel_rfl) (fields_cons (k := 1) (row1_int Try.underlying3) rfl (by kernel_rfl) (fields_nil _)))).map
    (fun a => (a.1, a.2.1)) (fun _ => rfl) (fun _ _ _ => trivial)
def dCells (d : Int × Int × Int) : List Value := [.int .i64 d.1, .int .i64 d.2.1, .int .i64 d.2.2]
theorem row1_dart (H : Type) : Row1 H Try.prog 49 dCells (fun _ _ => True) :=
  (row1_struct Try.underlying49 (by kernel_rfl) (fields_cons (k := 2) (row1_id H) rfl (by kernel_rfl) (fields_cons (k := 1) (row1_int Try.underlying3) rfl (by kernel_rfl) (fields_nil _)))).map
    (fun a => (a.1.1, a.1.2, a.2.1)) (fun _ => rfl) (fun _ _ _ => trivial)
def cnCells (d : Int × Int × Int × Int × Int) : List Value := [.int .i64 d.1, .int .i64 d.2.1, .int .i64 d.2.2.1, .int .i64 d.2.2.2.1, .int .i64 d.2.2.2.2]
theorem row1_corner (H : Type) : Row1 H Try.prog 51 cnCells (fun _ _ => True) :=
  (row1_struct Try.underlying51 (by kernel_rfl) (fields_cons (k := 2) (row1_id H) rfl (by kernel_rfl) (fields_cons (k := 3) (row1_dart H) rfl (by kernel_rfl) (fields_nil _)))).map
    (fun a => (a.1.1, a.1.2, a.2.1.1, a.2.1.2.1, a.2.1.2.2)) (fun _ => rfl) (fun _ _ _ => trivial)
theorem row1_op (H : Type) : Row1 H Try.prog 53 opCells (fun _ o => o.t.size ≤ maxLen) :=
  (row1_struct Try.underlying53 (by kernel_rfl) (fields_cons (k := 1) (row1_int Try.underlying3) rfl (by kernel_rfl) (fields_cons (k := 2) (row1_id H) rfl (by kernel_rfl) (fields_cons (k := 2) (row1_id H) rfl (by kernel_rfl) (fields_cons (k := 2) (row1_id H) rfl (by kernel_rfl)
    (fields_cons (k := 5) (row1_corner H) rfl (by kernel_rfl) (fields_cons (k := 5) (row1_corner H) rfl (by kernel_rfl) (fields_cons (k := 1) (row1_bool Try.underlying4) rfl (by kernel_rfl) (fields_cons (k := 1) (row1_string Try.underlying9) rfl (by kernel_rfl)
    (fields_cons (k := 1) (row1_int Try.underlying3) rfl (by kernel_rfl) (fields_nil _))))))))))).map
    (fun a => ⟨a.1, a.2.1.1, a.2.1.2, a.2.2.1.1, a.2.2.1.2, a.2.2.2.1.1, a.2.2.2.1.2, a.2.2.2.2.1.1, a.2.2.2.2.1.2.1, a.2.2.2.2.1.2.2.1, a.2.2.2.2.1.2.2.2.1, a.2.2.2.2.1.2.2.2.2,
      a.2.2.2.2.2.1.1, a.2.2.2.2.2.1.2.1, a.2.2.2.2.2.1.2.2.1, a.2.2.2.2.2.1.2.2.2.1, a.2.2.2.2.2.1.2.2.2.2, a.2.2.2.2.2.2.1, a.2.2.2.2.2.2.2.1, a.2.2.2.2.2.2.2.2.1⟩) (fun _ => rfl) (fun _ _ h => h.2.2.2.2.2.2.2.1)
theorem row1_edit (H : Type) : Row1 H Try.prog 28 (slCells (α := OpT)) (SlOk 20 opCells (fun _ o => o.t.size ≤ maxLen)) :=
  (row1_struct Try.underlying28 (by kernel_rfl) (fields_cons (k := 1) (row1_slice (row1_op H) Try.underlying26 (by kernel_rfl) opCells_len' (by decide)) rfl (by kernel_rfl) (fields_nil _))).map
    (fun a => a.1) (fun _ => by simp) (fun _ _ h => h.1)
end Go.Proofs.Ytinfbaflkjghhaa
/- The laws' types of layer 8: bytes. -/
namespace Go.Proofs.Ytinfbaflkjghhaa
open Go.ChangeShapes Go.WideShapes Go.ChangeAt Go.RowKit
end Go.Proofs.Ytinfbaflkjghhaa
/- Types of layer 23 as data. -/
namespace Go.Proofs.Ytinfbaflkjghhaa
open Go.ChangeShapes Go.WideShapes Go.ChangeAt Go.RowKit
def StpOk (W : World) (s : StT) : Prop := In4 s.1 ∧ SlOk 20 opCells (fun _ o => o.t.size ≤ maxLen) W s.2
theorem row1_step (H : Type) : Row1 H Try.prog 30 stC StpOk :=
  (row1_struct Try.underlying30 (by kernel_rfl) (fields_cons (k := 1) (row1_int Try.underlying3) rfl (by kernel_rfl) (fields_cons (k := 1) (row1_int Try.underlying3) rfl (by kernel_rfl) (fields_cons (k := 1) (row1_int Try.underlying3) rfl (by kernel_rfl) (fields_cons (k := 1) (row1_int Try.underlying3) rfl (by kernel_rfl) (fields_cons (k := 1) (row1_edit H) rfl (by kernel_rfl) (fields_nil _))))))).map
    (fun a => ((a.1, a.2.1, a.2.2.1, a.2.2.2.1), a.2.2.2.2.1)) (fun _ => rfl) (fun _ _ h => ⟨⟨h.1, h.2.1, h.2.2.1, h.2.2.2.1⟩, h.2.2.2.2.1⟩)
end Go.Proofs.Ytinfbaflkjghhaa
/- 'ScriptApart' answers true for every two steps.
   No condition beyond the row's own. -/
namespace Go.Proofs.Ytinfbaflkjghhaa
open Go.ChangeShapes Go.WideShapes Go.ChangeAt Go.RowKit
namespace lawScriptApart
set_option maxRecDepth 100000 in
theorem contract (H : Type) (enc : TypeId × Value → H) (W : World) (base : Nat) (args : Array Value) (ds gs : List (DataW H)) (before : List MemPlace)
    (hval : ∀ (j : Nat) t v, Try.f7.params[j]? = some t → args[j]? = some v → Value.okWide Try.prog W .any base t v)
    (hW : DataW.Whole enc Try.prog Try.f7.params.toList Rows.scriptApartSpec.vars false W args.toList ds gs before) :
    Calls Try.prog 7 args W fun e W' => ∃ v, e = .returned v ∧ Rows.scriptApartSpec.post enc Try.prog Try.f7 false true false false W args v W' := by
  have hW' := hW
  obtain ⟨p, q, hA, hV, rfl, hfz, hnd⟩ := hW
  obtain ⟨rfl, rfl⟩ := trodVars_none hV
  rw [Try.params7] at hA hval
  obtain ⟨v0, v1, d0, d1, p0, p1, rfl, rfl, rfl, h0, h1⟩ := trodAll_two hA
  obtain ⟨x, rfl, hx0⟩ := open_row1_struct (row1_step H) Try.underlying30 (hval 0 30 v0 rfl rfl) h0
  obtain ⟨y, rfl, hx1⟩ := open_row1_struct (row1_step H) Try.underlying30 (hval 1 30 v1 rfl rfl) h1
  refine (law_apart x y W hx0.2.2.1 hx1.2.2.1 hx0.1 hx1.1).mono fun e W' ⟨he, hb⟩ => ⟨_, he, ?_⟩
  exact law_post Try.laidOut (by kernel_rfl) (tb := 4) (by kernel_rfl) Try.underlying4 rfl ⟨rfl, rfl, rfl⟩ hW' hb
set_option maxRecDepth 100000 in
theorem lifted (os : Os) (started : os.Started) (H : Type) (enc : TypeId × Value → H) :
    ReturnsInHanded {} Try.checked os 7 .any (Rows.scriptApartSpec.pre6 enc Try.prog Try.f7 Rows.scriptApartRow.domain false) (Rows.scriptApartSpec.post enc Try.prog Try.f7 false true false false) := by
  refine returnsInHanded_of_change (C := Try.checked) Try.own started (by kernel_rfl) Try.func7
    (ChangeSpec.witness6 (enc := enc) (C := Try.checked) false ⟨#[], #[.agg #[.int .i64 0, .int .i64 0, .int .i64 0, .int .i64 0, .slice none 0 0], .agg #[.int .i64 0, .int .i64 0, .int .i64 0, .int .i64 0, .slice none 0 0]], []⟩ 8 (by kernel_rfl) (by kernel_rfl) (by kernel_rfl) (by kernel_rfl)) ?_
  intro W base args ds gs before hval hW _ _
  exact contract H enc W base args ds gs before hval hW
theorem proved : Rows.ScriptApartSaid :=
  OpenClaim.holds_of_wide 7 Try.f7 rfl rfl rfl rfl rfl rfl rfl ⟨rfl, rfl, rfl, rfl, rfl⟩ rfl rfl rfl rfl rfl (by kernel_rfl) Try.func7 (by kernel_rfl)
    (of_decide_eq_true (by kernel_rfl)) (by unfold Func.isWrapper; first | (rw [if_pos (by decide +kernel)]; kernel_rfl) | (rw [if_neg (by decide +kernel)]; exact ⟨rfl, rfl⟩))
    (fun os started H enc _ => lifted os started H enc)
end lawScriptApart
end Go.Proofs.Ytinfbaflkjghhaa
