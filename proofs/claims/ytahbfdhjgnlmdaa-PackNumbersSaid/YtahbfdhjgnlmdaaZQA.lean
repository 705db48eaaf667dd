/- 'PackNumbers' answers true for every number, every text and every row of bytes.
   No condition beyond the row's own. -/
import Derived.Test.YtahbfdhjgnlmdaaZPJ
import Derived.Test.YtahbfdhjgnlmdaaZPI
import Derived.Test.YtahbfdhjgnlmdaaRows
import Derived.Test.YtahbfdhjgnlmdaaZPB
import Derived.ChangeMaps5

/- PackNumbers' walk. -/
namespace Go.Proofs.Ytahbfdhjgnlmdaa
open Go.RowKit
set_option linter.unusedSimpArgs false
set_option linter.unusedVariables false

theorem text_back {s : ByteArray} (hs : s.size ≤ 255) (R : List Nat) : isT (textB s ++ R) = true ∧ txT (textB s ++ R) = s ∧ leT (textB s ++ R) = R := by
  have e1 : s.size % 256 = s.size := Nat.mod_eq_of_lt (by omega)
  have hc : c1 (textB s ++ R) = s.size := by rw [← e1]; rfl
  have hl : (textB s ++ R).length = 1 + s.size + R.length := by simp [textB, tB_len]; omega
  have hT : isT (textB s ++ R) = true := by
    unfold isT
    rw [hc, hl]
    exact decide_eq_true (by omega)
  have hd : (textB s ++ R).drop 1 = tB s ++ R := by simp [textB]
  refine ⟨hT, ?_, ?_⟩
  · unfold txT
    rw [if_pos hT, hc, hd, List.take_append_of_le_length (by rw [tB_len]; omega), List.take_of_length_le (by rw [tB_len]; omega), txt_tB]
  · unfold leT
    rw [if_pos hT, hc, ← List.drop_drop, hd]
    exact drop_app (tB_len s)
theorem takenum_back (A : Option Addr) (c n : Nat) (x : Int) (R : List Nat) (hx : In64 x) (hR : R.length = n) (hb : ∀ b ∈ R, b < 256) (hn : n ≤ 1000) (W : World) (h : RdS W W.heap.size 1 A (8 + n) c (rowsV f8 (be8 x ++ R))) :
    Calls Try.prog 16 #[.slice A (8 + n) c] W fun e w' => ∃ A' c', e = .returned (.tuple #[.int .i64 x, .slice A' n c', .bool true]) ∧ RdS w' w'.heap.size 1 A' n c' (rowsV f8 R) ∧ Below W.heap.size W w' := by
  have hl : (be8 x ++ R).length = 8 + n := by rw [List.length_append, be8_len, hR]
  have h1 := takenum_any A c (be8 x ++ R) W (by rw [hl]; exact h) (by omega) (fun b hb' => by rcases List.mem_append.1 hb' with q | q; exact be8_lt x b q; exact hb b q)
  unfold GivesTN at h1
  have h8 : 8 ≤ (be8 x ++ R).length := by omega
  rw [if_pos h8, if_pos h8, decide_eq_true h8, List.take_append_of_le_length (by rw [be8_len]; omega), List.take_of_length_le (by rw [be8_len]; omega), num8_be8 x hx, drop_app (be8_len x), hl] at h1
  refine h1.mono ?_
  rintro e w' ⟨A', n', c', rfl, rfl, ho, hb'⟩
  rw [hR] at ho ⊢
  exact ⟨A', c', rfl, own_rds ho, hb'⟩
theorem takenum_short (A : Option Addr) (c n : Nat) (R : List Nat) (hR : R.length = n) (hb : ∀ b ∈ R, b < 256) (hn : n < 8) (W : World) (h : RdS W W.heap.size 1 A n c (rowsV f8 R)) :
    Calls Try.prog 16 #[.slice A n c] W fun e w' => ∃ A' c', e = .returned (.tuple #[.int .i64 0, .slice A' n c', .bool false]) ∧ RdS w' w'.heap.size 1 A' n c' (rowsV f8 R) ∧ Below W.heap.size W w' := by
  subst hR
  have h1 := takenum_any A c R W h (by omega) hb
  unfold GivesTN at h1
  have h8 : ¬ 8 ≤ R.length := by omega
  rw [if_neg h8, if_neg h8, decide_eq_false h8] at h1
  refine h1.mono ?_
  rintro e w' ⟨A', n', c', rfl, rfl, ho, hb'⟩
  exact ⟨A', c', rfl, own_rds ho, hb'⟩
theorem taketext_back (A : Option Addr) (c n N : Nat) (s : ByteArray) (R : List Nat) (hs : s.size ≤ 255) (hN : (textB s ++ R).length = N) (hR : R.length = n) (hb : ∀ b ∈ R, b < 256) (hn : n ≤ 1000) (W : World) (h : RdS W W.heap.size 1 A N c (rowsV f8 (textB s ++ R))) :
    Calls Try.prog 18 #[.slice A N c] W fun e w' => ∃ A' c', e = .returned (.tuple #[.string s, .slice A' n c', .bool true]) ∧ RdS w' w'.heap.size 1 A' n c' (rowsV f8 R) ∧ Below W.heap.size W w' := by
  subst hN
  have hl : (textB s ++ R).length = 1 + s.size + R.length := by simp [textB, tB_len]; omega
  have h1 := taketext_any A c (textB s ++ R) W h (by omega) (fun b hb' => by rcases List.mem_append.1 hb' with q | q; exact textB_lt s b q; exact hb b q)
  unfold GivesTT at h1
  obtain ⟨e1, e2, e3⟩ := text_back hs R
  rw [e1, e2, e3] at h1
  refine h1.mono ?_
  rintro e w' ⟨A', n', c', rfl, rfl, ho, hb'⟩
  rw [hR] at ho ⊢
  exact ⟨A', c', rfl, own_rds ho, hb'⟩
theorem own_of_gives {w w' : World} {L : List Nat} {A : Option Addr} {N c : Nat} (hN : L.length = N) (ho : w'.ownsRow w.heap.size 5 1 (.slice A N c) N (rowsV f8 L)) (hb : Below w.heap.size w w') : Ow w w.heap.size 5 1 (.slice A N c) N (rowsV f8 L) w' := ⟨ho, hb, Nat.le_refl _, hb.size⟩
set_option maxRecDepth 100000 in
set_option maxHeartbeats 4000000 in
theorem law_numbers (x : Int) (hx : In64 x) (s : ByteArray) (A : Option Addr) (n c : Nat) (L : List Nat) (w : World) (h : RdS w w.heap.size 1 A n c (rowsV f8 L)) (hb : ∀ b ∈ L, b < 256) :
    Calls Try.prog 8 #[.int .i64 x, .string s, .slice A n c] w fun e w' => e = .returned (.bool true) ∧ Below w.heap.size w w' := by
  have HR := Lib.hid h
  have Hb := Lib.hid hb
  have Hl : RowKit.Hid (L.length = n) := Lib.hid (h.rlen f8_len (by decide))
  have Hx := Lib.hid hx
  have hnc := h.le
  have HNm := Lib.hid (fun W => num_any none 0 [] x W (rds_nil W W.heap.size 1) (by simp))
  rw [show [] ++ be8 x = be8 x from rfl] at HNm
  clear h hb hx
  go_enter Try.func8, Try.ntmps8
  go_upto_if 23 with (go_at_call 15; refine (shown08_any _).mono ?_; rintro e w1 ⟨rfl, hb1⟩; have HB1 := Lib.hid hb1; have HR1 := Lib.hid (HR.out.bl hb1); clear hb1 HR)
  go_cut [1] (fun v z => ∃ s' : ByteArray, v = .string s' ∧ s'.size ≤ 255 ∧ w1 = z)
  case first =>
    by_cases hs : 255 < s.size
    · have ht : (255 : Int) < (s.size : Int) := by omega
      go_wp2_with fail
      go_meet
      exact ⟨_, rfl, by simp [ByteArray.size_extract]; try omega, rfl⟩
    · have ht : ¬ (255 : Int) < (s.size : Int) := by omega
      go_wp2_with fail
      go_meet
      exact ⟨s, rfl, by omega, rfl⟩
  case rest =>
  obtain ⟨s', rfl, hs', hz⟩ := hcut
  subst hz
  have Hs := Lib.hid hs'
  clear hs'
  go_upto_if 28 with fail
  go_cut [2] (fun v z => ∃ (n' : Nat) (L' : List Nat), v = .slice A n' c ∧ n' ≤ 100 ∧ L'.length = n' ∧ (∀ b ∈ L', b < 256) ∧ RdS w1 w1.heap.size 1 A n' c (rowsV f8 L') ∧ w1 = z)
  case first =>
    by_cases hn : 100 < n
    · have ht : (100 : Int) < (n : Int) := by omega
      have h100 : 100 ≤ c := by omega
      go_wp2_with fail
      go_meet
      refine ⟨100, L.take 100, rfl, Nat.le_refl _, by rw [List.length_take, Hl.out]; omega, fun b hb => Hb.out b (List.mem_of_mem_take hb), ?_, rfl⟩
      have t1 := HR1.out.take_ 100 (by omega)
      rw [rowsV_map8] at t1 ⊢
      rw [List.map_take]
      exact t1
    · have ht : ¬ (100 : Int) < (n : Int) := by omega
      go_wp2_with fail
      go_meet
      exact ⟨n, L, rfl, by omega, Hl.out, Hb.out, HR1.out, rfl⟩
  case rest =>
  obtain ⟨n', L', rfl, hn', hl', hb', hr', hz⟩ := hcut
  subst hz
  have HL := Lib.hid hr'
  have Hl' := Lib.hid hl'
  have Hb' := Lib.hid hb'
  have HTx := Lib.hid (fun W => text_any none 0 [] s' W (rds_nil W W.heap.size 1) (by simp) (by have := Hs.out; omega))
  rw [show [] ++ textB s' = textB s' from rfl] at HTx
  obtain ⟨T, gT⟩ : ∃ T, (textB s').length = T := ⟨_, rfl⟩
  have hT : T ≤ 256 := by rw [← gT]; simp [textB, tB_len]; have := Hs.out; omega
  have GT := Lib.hid gT
  have Hb8 := Lib.hid (be8_len x)
  clear hr' hl' hb' HR1 Hb Hl gT hnc
  go_upto_region 7 with (first
    | (go_at_call 20
       refine (HNm.out _).mono ?_
       rintro e w2 ⟨A2, c2, rfl, -, -, ho2, hb2⟩
       rw [Hb8.out] at ho2 ⊢
       have HB2 : RowKit.Hid (Below w.heap.size w w2) := Lib.hid (Ext.trans HB1.out hb2)
       have HL2 := Lib.hid (HL.out.bl hb2)
       obtain ⟨A8, c8, w3, hrun, ho3, hg3⟩ := app8 43 (own_of_gives (by rw [be8_len]) ho2 hb2) HL2.out (by omega)
       have hb3 : Below w1.heap.size w1 w3 := ho3.below
       have HB3 : RowKit.Hid (Below w.heap.size w w3) := Lib.hid (Ext.trans HB1.out hb3)
       have HL3 := Lib.hid (HL.out.bl hb3)
       have HN3 := Lib.hid (own_rds ho3.own)
       clear ho2 hb2 ho3 hg3 hb3)
    | (at_builtin
       refine wl_run (some 34) rfl (by rfl) (exec_append (by rfl) (by rfl) (by rfl) hrun) ?_))
  clear hrun HL2 HB2 HL
  go_upto_region 8 with (first
    | (go_at_call 22
       refine (HTx.out _).mono ?_
       rintro e w4 ⟨A4, c4, rfl, -, -, ho4, hb4⟩
       rw [GT.out] at ho4 ⊢
       have HB4 : RowKit.Hid (Below w.heap.size w w4) := Lib.hid (Ext.trans HB3.out hb4)
       have HL4 := Lib.hid (HL3.out.bl hb4)
       obtain ⟨A9, c9, w5, hrun, ho5, hg5⟩ := app8 43 (own_of_gives GT.out ho4 hb4) HL4.out (by omega)
       have hb5 : Below w3.heap.size w3 w5 := ho5.below
       have HB5 : RowKit.Hid (Below w.heap.size w w5) := Lib.hid (Ext.trans HB3.out hb5)
       have HL5 := Lib.hid (HL3.out.bl hb5)
       have HN5 := Lib.hid (HN3.out.bl hb5)
       have HT5 := Lib.hid (own_rds ho5.own)
       clear ho4 hb4 ho5 hg5 hb5)
    | (at_builtin
       refine wl_run (some 38) rfl (by rfl) (exec_append (by rfl) (by rfl) (by rfl) hrun) ?_))
  clear hrun HL4 HB4 HL3 HN3 HB3
  go_upto_region 9 with (first
    | (go_at_call 16
       refine (takenum_back A8 c8 n' x L' Hx.out Hl'.out Hb'.out (by omega) _ HN5.out).mono ?_
       rintro e w6 ⟨A6, c6, rfl, hr6, hb6⟩
       have HB6 : RowKit.Hid (Below w.heap.size w w6) := Lib.hid (Ext.trans HB5.out hb6)
       have HL6 := Lib.hid (HL5.out.bl hb6)
       have HT6 := Lib.hid (HT5.out.bl hb6)
       have HY6 := Lib.hid hr6
       clear hr6 hb6 HN5 HL5 HT5 HB5))
  go_upto_region 10 with (first
    | (go_at_call 18
       refine (taketext_back A9 c9 n' (T + n') s' L' Hs.out (by rw [List.length_append, GT.out, Hl'.out]) Hl'.out Hb'.out (by omega) _ HT6.out).mono ?_
       rintro e w7 ⟨A7, c7, rfl, hr7, hb7⟩
       have HB7 : RowKit.Hid (Below w.heap.size w w7) := Lib.hid (Ext.trans HB6.out hb7)
       have HL7 := Lib.hid (HL6.out.bl hb7)
       have HY7 := Lib.hid (HY6.out.bl hb7)
       have HU7 := Lib.hid hr7
       clear hr7 hb7 HT6 HL6 HY6 HB6))
  go_upto_region 13 with (first
    | (go_at_call 20
       refine (HNm.out _).mono ?_
       rintro e w8 ⟨A10, c10, rfl, hr8, -, -, hb8⟩
       rw [Hb8.out] at hr8 ⊢
       have HB8 : RowKit.Hid (Below w.heap.size w w8) := Lib.hid (Ext.trans HB7.out hb8)
       have HL8 := Lib.hid (HL7.out.bl hb8)
       have HY8 := Lib.hid (HY7.out.bl hb8)
       have HU8 := Lib.hid (HU7.out.bl hb8)
       have HS8 := Lib.hid hr8
       clear hr8 hb8 HL7 HY7 HU7 HB7))
  have hle := HS8.out.le
  have h7c : 7 ≤ c10 := by omega
  have HS7 : RowKit.Hid (RdS w8 w8.heap.size 1 A10 7 c10 (rowsV f8 ((be8 x).take 7))) := Lib.hid (by
    have t1 := HS8.out.take_ 7 (by omega)
    rw [rowsV_map8] at t1 ⊢
    rw [List.map_take]
    exact t1)
  go_upto_region 14 with (first
    | (go_at_call 16
       refine (takenum_short A10 c10 7 ((be8 x).take 7) (by rw [List.length_take, be8_len]; rfl) (fun b hb => be8_lt x b (List.mem_of_mem_take hb)) (by omega) _ HS7.out).mono ?_
       rintro e w9 ⟨A11, c11, rfl, hr9, hb9⟩
       have HB9 : RowKit.Hid (Below w.heap.size w w9) := Lib.hid (Ext.trans HB8.out hb9)
       have HL9 := Lib.hid (HL8.out.bl hb9)
       have HY9 := Lib.hid (HY8.out.bl hb9)
       have HU9 := Lib.hid (HU8.out.bl hb9)
       clear hr9 hb9 HL8 HY8 HU8 HB8 HS7 HS8))
  have v1 := conv_txt HL9.out
  have v2 := conv_txt HY9.out
  have v3 := conv_txt HU9.out
  obtain ⟨tx, gtx⟩ : ∃ z, txt L' = z := ⟨_, rfl⟩
  rw [gtx] at v1 v2 v3
  clear gtx
  go_wp2
  go_ret
  exact ⟨by first | rfl | simp, HB9.out⟩

end Go.Proofs.Ytahbfdhjgnlmdaa

/- 'PackNumbers' answers true for every number, every text and every row of bytes.
   No condition beyond the row's own. -/
namespace Go.Proofs.Ytahbfdhjgnlmdaa
open Go.ChangeShapes Go.WideShapes Go.ChangeAt Go.RowKit
namespace lawPackNumbers

set_option maxRecDepth 100000 in
theorem contract (H : Type) (enc : TypeId × Value → H) (W : World) (base : Nat) (args : Array Value) (ds gs : List (DataW H)) (before : List MemPlace)
    (hval : ∀ (j : Nat) t v, Try.f8.params[j]? = some t → args[j]? = some v → Value.okWide Try.prog W .any base t v)
    (hW : DataW.Whole enc Try.prog Try.f8.params.toList Rows.packNumbersSpec.vars false W args.toList ds gs before) :
    Calls Try.prog 8 args W fun e W' => ∃ v, e = .returned v ∧ Rows.packNumbersSpec.post enc Try.prog Try.f8 false true false false W args v W' := by
  have hW' := hW
  obtain ⟨p, q, hA, hV, rfl, hfz, hnd⟩ := hW
  obtain ⟨rfl, rfl⟩ := trodVars_none hV
  rw [Try.params8] at hA hval
  obtain ⟨v0, v1, v2, d0, d1, d2, p0, p1, p2, rfl, rfl, rfl, h0, h1, h2⟩ := trodAll_three hA
  obtain ⟨x, rfl, h0b, -, hy0⟩ := open_int Try.underlying3 (hval 0 3 v0 rfl rfl) h0
  obtain ⟨s, rfl, h1b, -, hx1⟩ := Go.ChangeMaps.open_string Try.underlying9 (hval 1 9 v1 rfl rfl) h1
  obtain ⟨b, rfl, hx2⟩ := open_row1_slice (row1_byte H) Try.underlying43 (by kernel_rfl) f8_len (by decide) (hval 2 43 v2 rfl rfl) h2
  refine (law_numbers x (in64_of hy0) s b.1 b.2.1 b.2.2.1 b.2.2.2 W hx2.2.1 hx2.2.2).mono fun e W' ⟨he, hb⟩ => ⟨_, he, ?_⟩
  exact law_post Try.laidOut (by kernel_rfl) (tb := 4) (by kernel_rfl) Try.underlying4 rfl ⟨rfl, rfl, rfl⟩ hW' hb

set_option maxRecDepth 100000 in
theorem lifted (os : Os) (started : os.Started) (H : Type) (enc : TypeId × Value → H) :
    ReturnsInHanded {} Try.checked os 8 .any (Rows.packNumbersSpec.pre6 enc Try.prog Try.f8 Rows.packNumbersRow.domain false) (Rows.packNumbersSpec.post enc Try.prog Try.f8 false true false false) := by
  refine returnsInHanded_of_change (C := Try.checked) Try.own started (by kernel_rfl) Try.func8
    (ChangeSpec.witness6 (enc := enc) (C := Try.checked) false ⟨#[], #[.int .i64 0, .string ByteArray.empty, .slice none 0 0], []⟩ 8 (by kernel_rfl) (by kernel_rfl) (by kernel_rfl) (by kernel_rfl)) ?_
  intro W base args ds gs before hval hW _ _
  exact contract H enc W base args ds gs before hval hW

theorem proved : Rows.PackNumbersSaid :=
  OpenClaim.holds_of_wide 8 Try.f8 rfl rfl rfl rfl rfl rfl rfl ⟨rfl, rfl, rfl, rfl, rfl⟩ rfl rfl rfl rfl rfl (by kernel_rfl) Try.func8 (by kernel_rfl)
    (of_decide_eq_true (by kernel_rfl)) (by unfold Func.isWrapper; first | (rw [if_pos (by decide +kernel)]; kernel_rfl) | (rw [if_neg (by decide +kernel)]; exact ⟨rfl, rfl⟩))
    (fun os started H enc _ => lifted os started H enc)
end lawPackNumbers
end Go.Proofs.Ytahbfdhjgnlmdaa
