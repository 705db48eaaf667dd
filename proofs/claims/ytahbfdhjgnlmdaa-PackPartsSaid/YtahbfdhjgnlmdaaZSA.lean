/- 'PackParts' answers true for every row of bytes, every number and every text.
   No condition beyond the row's own. -/
import Derived.Test.YtahbfdhjgnlmdaaZPI
import Derived.Laws.IdiomStrings
import Derived.Laws.ShiftsVarLaws
import Derived.Test.YtahbfdhjgnlmdaaZPJ
import Derived.Test.YtahbfdhjgnlmdaaRows
import Derived.Test.YtahbfdhjgnlmdaaZPB
import Derived.ChangeMaps5

/- The document's Num, TakeNum, Text, TakeText. -/
namespace Go.Proofs.Ytahbfdhjgnlmdaa
open Go.RowKit
set_option linter.unusedSimpArgs false
set_option linter.unusedVariables false

theorem conv_str (s : ByteArray) (w : World) : ∃ c w', (convert 9 43 (.string s)).run Try.prog w = .ok (.slice (some ⟨w.heap.size, 0, none⟩) s.size c) w' ∧ RdS w' w'.heap.size 1 (some ⟨w.heap.size, 0, none⟩) s.size c (rowsV f8 (tB s)) ∧ Below w.heap.size w w' := by
  have h := run_bytes_of_string (P := Try.prog) w 9 43 5 s (Try.underlying9 ) (Try.underlying43 ) (Try.underlying5 )
  have hb : Below w.heap.size w (w.drew.alloc (.cells (bytesRow s (grownCap w s.size 0 5)) 5 ((bytesRow s (grownCap w s.size 0 5)).size, (bytesRow s (grownCap w s.size 0 5)).size + 1))) := (Below.refl _ w).drew.alloc (by simp) _
  have hr : ∀ j u, (rowsV f8 (tB s))[j]? = some u → (w.drew.alloc (.cells (bytesRow s (grownCap w s.size 0 5)) 5 ((bytesRow s (grownCap w s.size 0 5)).size, (bytesRow s (grownCap w s.size 0 5)).size + 1))).cell? ((⟨w.heap.size, 0, none⟩ : Addr).add j) = some u := fun j u hu => by
    have hj : j < s.data.size := by
      have := (List.getElem?_eq_some_iff.1 hu).1
      rw [rows8_len, tB_len] at this
      exact this
    rw [rows_get, tB_data, List.getElem?_map, Array.getElem?_toList, Array.getElem?_eq_getElem hj] at hu
    have hx := bytesRow_at s (grownCap w s.size 0 5) j hj
    have hu2 : some (Value.int .u8 (s.data[j].toNat : Int)) = some u := hu
    rw [hu2] at hx
    exact World.news_of_block (fr := _) (heap_alloc_new w.drew _) j u (by rw [Array.getElem?_toList]; exact hx)
  exact ⟨_, _, h, ⟨by rw [rows8_len, tB_len, Nat.mul_one], fun e => (by cases e), grownCap_ge _ _ _ _, fun a ha _ => (by obtain rfl := Option.some.inj ha; simp), fun a ha j u hu => (by obtain rfl := Option.some.inj ha; exact hr j u hu)⟩, hb⟩
theorem exec_convert_w {P : Program} {ev : Operand → Value} {o : Oper} {w w' : World} (s d : TypeId) (x : Operand) (ho : o.op = .convert s d x) {v u : Value} (hx : ev x = v) (hrun : (convert s d v).run P w = .ok u w') : (execOp ev o).run P w = .ok (.value u) w' := by
  unfold execOp
  simp only [ho, hx, Sem.run_bind, Sem.run_pure, Result.andThen_ok, hrun]
theorem beN_get : ∀ (k U j : Nat), j < k → (beN k U)[j]? = some (U / 256 ^ (k - 1 - j) % 256)
  | 0, U, j, h => by omega
  | k + 1, U, 0, h => by rw [beN_cons]; rfl
  | k + 1, U, j + 1, h => by
    rw [beN_cons, List.getElem?_cons_succ, beN_get k U j (by omega)]
    rw [show k + 1 - 1 - (j + 1) = k - 1 - j by omega]

end Go.Proofs.Ytahbfdhjgnlmdaa

/- The document's Num. -/
namespace Go.Proofs.Ytahbfdhjgnlmdaa
open Go.RowKit
set_option linter.unusedSimpArgs false
set_option linter.unusedVariables false

set_option maxRecDepth 100000 in
set_option maxHeartbeats 4000000 in
theorem rnum_any (A : Option Addr) (c : Nat) (L : List Nat) (x : Int) (w : World) (h : RdS w w.heap.size 1 A L.length c (rowsV f8 L)) (hn : L.length ≤ 900000) :
    Calls Try.prog 21 #[.slice A L.length c, .int .i64 x] w (Gives8 w (L ++ be8 x)) := by
  obtain ⟨i0, hi, hz0, hz1, hz2⟩ := info_parts_ info_u8
  obtain ⟨A1, c1, w1, hrun, how, hbw⟩ := fresh_copy (P := Try.prog) w 43 43 5 i0 _ 1 1 Try.underlying43 hi hz0 hz1 hz2 rfl (by decide) A L.length c _ h (f8_all L) (by omega) (by decide)
  have hx := wrap_u64_ x
  have hU := u64_lt x
  have e8 : L ++ be8 x = L ++ (beN 8 (u64 x)).take 8 := by
    rw [List.take_of_length_le (by rw [beN_len]; omega)]
    rfl
  rw [e8]
  obtain ⟨U, gU⟩ : ∃ U, u64 x = U := ⟨_, rfl⟩
  rw [gU] at hx hU ⊢
  have Hn : RowKit.Hid (L.length ≤ 900000) := Lib.hid hn
  have HU := Lib.hid hU
  have Hx := Lib.hid hx
  have HO1 : RowKit.Hid (Ow w w.heap.size 5 1 (.slice A1 L.length c1) L.length (rowsV f8 (L ++ (beN 8 U).take 0)) w1) := Lib.hid (by rw [List.take_zero, List.append_nil]; exact ⟨how, hbw, Nat.le_refl _, hbw.size⟩)
  have Hl8 : RowKit.Hid ((L ++ (beN 8 U).take 8).length = L.length + 8) := Lib.hid (by rw [List.length_append, List.length_take, beN_len]; rfl)
  obtain ⟨n, gn⟩ : ∃ n, L.length = n := ⟨_, rfl⟩
  rw [gn] at hrun HO1 Hn Hl8 ⊢
  clear h hn e8 gU hU hx how hbw gn hi hz0 hz1 hz2
  go_enter Try.func21, Try.ntmps21
  go_upto_region 2 with (first
    | (at_builtin
       refine wl_run (some 9) rfl (by rfl) (exec_append (by rfl) (by rfl) (by rfl) hrun) ?_))
  clear hrun
  go_wp2
  go_loopw [5, 6] (fun v si wr => ∃ (k N : Nat) (A2 : Option Addr) (c2 : Nat), k ≤ 8 ∧ si = .int .i64 (7 - (k : Int)) ∧ v = .slice A2 N c2 ∧ RowKit.Hid (N = n + k) ∧ RowKit.Hid (Ow w w.heap.size 5 1 (.slice A2 N c2) N (rowsV f8 (L ++ (beN 8 U).take k)) wr)) (fun _ si _ => (intOf si + 1).toNat)
  case atStart => exact ⟨0, n, A1, c1, by omega, rfl, rfl, Lib.hid rfl, HO1⟩
  case round =>
    clear HO1
    obtain ⟨k, N, A2, c2, hk, rfl, rfl, HN, HO⟩ := hrel
    by_cases hlt : k < 8
    · have hb := beN_get 8 U k hlt
      obtain ⟨db, gdb⟩ : ∃ z, U / 256 ^ (8 - 1 - k) % 256 = z := ⟨_, rfl⟩
      rw [gdb] at hb
      have hnx : (beN 8 U).take k ++ [db] = (beN 8 U).take (k + 1) := by rw [List.take_add_one, hb]; rfl
      have Hnx := Lib.hid hnx
      obtain ⟨A3, c3, w3, hrun, ho3, hg3⟩ := app8 43 (Ow.up HO.out (below1 wr (.cells #[.int .u8 (db : Int)] 5))) (one8 wr db) (by have := HN.out; have := Hn.out; omega)
      rw [List.append_assoc, hnx] at ho3
      have HO3 := Lib.hid ho3
      have hx := Hx.out
      have hd0 : decide ((0 : Int) ≤ 7 - (k : Int)) = true := decide_eq_true (by omega)
      have hsb : IntKind.i64.wrap (7 - (k : Int) - 1) = 7 - ((k + 1 : Nat) : Int) := by rw [IntWalk.i64_in _ (by omega)]; omega
      have h8m : IntKind.i64.wrap (8 * (7 - (k : Int))) = ((8 * (7 - k) : Nat) : Int) := by rw [IntWalk.i64_in _ (by omega)]; omega
      clear hb hnx ho3 hg3
      have hcs : k = 0 ∨ k = 1 ∨ k = 2 ∨ k = 3 ∨ k = 4 ∨ k = 5 ∨ k = 6 ∨ k = 7 := by omega
      rcases hcs with rfl | rfl | rfl | rfl | rfl | rfl | rfl | rfl
      · have hw8 : IntKind.u8.wrap ((U : Int) / 72057594037927936) = (db : Int) := by rw [IntKind.wrap_u8]; have h9 : U / 72057594037927936 % 256 = db := gdb; omega
        have hw9 : IntKind.i64.wrap 56 = 56 := rfl
        have hd1 : decide ((0 : Int) ≤ 7) = true := rfl
        replace hsb : IntKind.i64.wrap (7 - 1) = 7 - ((1 : Nat) : Int) := hsb
        clear hd0 h8m gdb hlt hk
        rw [show (7 : Int) - ((0 : Nat) : Int) = 7 from rfl]
        go_wp2_with (first
          | (at_builtin
             refine wl_run (some 22) rfl (by rfl) (exec_append (by rfl) (by rfl) (by rfl) hrun) ?_))
        go_roundw
        case rel => exact ⟨1, N + 1, A3, c3, by omega, by first | rfl | simp, rfl, Lib.hid (by have := HN.out; omega), HO3⟩
        case measure => first | (simp [intOf]; done) | (simp [intOf]; omega) | decide
      · have hw8 : IntKind.u8.wrap ((U : Int) / 281474976710656) = (db : Int) := by rw [IntKind.wrap_u8]; have h9 : U / 281474976710656 % 256 = db := gdb; omega
        have hw9 : IntKind.i64.wrap 48 = 48 := rfl
        have hd1 : decide ((0 : Int) ≤ 6) = true := rfl
        replace hsb : IntKind.i64.wrap (6 - 1) = 7 - ((2 : Nat) : Int) := hsb
        clear hd0 h8m gdb hlt hk
        rw [show (7 : Int) - ((1 : Nat) : Int) = 6 from rfl]
        go_wp2_with (first
          | (at_builtin
             refine wl_run (some 22) rfl (by rfl) (exec_append (by rfl) (by rfl) (by rfl) hrun) ?_))
        go_roundw
        case rel => exact ⟨2, N + 1, A3, c3, by omega, by first | rfl | simp, rfl, Lib.hid (by have := HN.out; omega), HO3⟩
        case measure => first | (simp [intOf]; done) | (simp [intOf]; omega) | decide
      · have hw8 : IntKind.u8.wrap ((U : Int) / 1099511627776) = (db : Int) := by rw [IntKind.wrap_u8]; have h9 : U / 1099511627776 % 256 = db := gdb; omega
        have hw9 : IntKind.i64.wrap 40 = 40 := rfl
        have hd1 : decide ((0 : Int) ≤ 5) = true := rfl
        replace hsb : IntKind.i64.wrap (5 - 1) = 7 - ((3 : Nat) : Int) := hsb
        clear hd0 h8m gdb hlt hk
        rw [show (7 : Int) - ((2 : Nat) : Int) = 5 from rfl]
        go_wp2_with (first
          | (at_builtin
             refine wl_run (some 22) rfl (by rfl) (exec_append (by rfl) (by rfl) (by rfl) hrun) ?_))
        go_roundw
        case rel => exact ⟨3, N + 1, A3, c3, by omega, by first | rfl | simp, rfl, Lib.hid (by have := HN.out; omega), HO3⟩
        case measure => first | (simp [intOf]; done) | (simp [intOf]; omega) | decide
      · have hw8 : IntKind.u8.wrap ((U : Int) / 4294967296) = (db : Int) := by rw [IntKind.wrap_u8]; have h9 : U / 4294967296 % 256 = db := gdb; omega
        have hw9 : IntKind.i64.wrap 32 = 32 := rfl
        have hd1 : decide ((0 : Int) ≤ 4) = true := rfl
        replace hsb : IntKind.i64.wrap (4 - 1) = 7 - ((4 : Nat) : Int) := hsb
        clear hd0 h8m gdb hlt hk
        rw [show (7 : Int) - ((3 : Nat) : Int) = 4 from rfl]
        go_wp2_with (first
          | (at_builtin
             refine wl_run (some 22) rfl (by rfl) (exec_append (by rfl) (by rfl) (by rfl) hrun) ?_))
        go_roundw
        case rel => exact ⟨4, N + 1, A3, c3, by omega, by first | rfl | simp, rfl, Lib.hid (by have := HN.out; omega), HO3⟩
        case measure => first | (simp [intOf]; done) | (simp [intOf]; omega) | decide
      · have hw8 : IntKind.u8.wrap ((U : Int) / 16777216) = (db : Int) := by rw [IntKind.wrap_u8]; have h9 : U / 16777216 % 256 = db := gdb; omega
        have hw9 : IntKind.i64.wrap 24 = 24 := rfl
        have hd1 : decide ((0 : Int) ≤ 3) = true := rfl
        replace hsb : IntKind.i64.wrap (3 - 1) = 7 - ((5 : Nat) : Int) := hsb
        clear hd0 h8m gdb hlt hk
        rw [show (7 : Int) - ((4 : Nat) : Int) = 3 from rfl]
        go_wp2_with (first
          | (at_builtin
             refine wl_run (some 22) rfl (by rfl) (exec_append (by rfl) (by rfl) (by rfl) hrun) ?_))
        go_roundw
        case rel => exact ⟨5, N + 1, A3, c3, by omega, by first | rfl | simp, rfl, Lib.hid (by have := HN.out; omega), HO3⟩
        case measure => first | (simp [intOf]; done) | (simp [intOf]; omega) | decide
      · have hw8 : IntKind.u8.wrap ((U : Int) / 65536) = (db : Int) := by rw [IntKind.wrap_u8]; have h9 : U / 65536 % 256 = db := gdb; omega
        have hw9 : IntKind.i64.wrap 16 = 16 := rfl
        have hd1 : decide ((0 : Int) ≤ 2) = true := rfl
        replace hsb : IntKind.i64.wrap (2 - 1) = 7 - ((6 : Nat) : Int) := hsb
        clear hd0 h8m gdb hlt hk
        rw [show (7 : Int) - ((5 : Nat) : Int) = 2 from rfl]
        go_wp2_with (first
          | (at_builtin
             refine wl_run (some 22) rfl (by rfl) (exec_append (by rfl) (by rfl) (by rfl) hrun) ?_))
        go_roundw
        case rel => exact ⟨6, N + 1, A3, c3, by omega, by first | rfl | simp, rfl, Lib.hid (by have := HN.out; omega), HO3⟩
        case measure => first | (simp [intOf]; done) | (simp [intOf]; omega) | decide
      · have hw8 : IntKind.u8.wrap ((U : Int) / 256) = (db : Int) := by rw [IntKind.wrap_u8]; have h9 : U / 256 % 256 = db := gdb; omega
        have hw9 : IntKind.i64.wrap 8 = 8 := rfl
        have hd1 : decide ((0 : Int) ≤ 1) = true := rfl
        replace hsb : IntKind.i64.wrap (1 - 1) = 7 - ((7 : Nat) : Int) := hsb
        clear hd0 h8m gdb hlt hk
        rw [show (7 : Int) - ((6 : Nat) : Int) = 1 from rfl]
        go_wp2_with (first
          | (at_builtin
             refine wl_run (some 22) rfl (by rfl) (exec_append (by rfl) (by rfl) (by rfl) hrun) ?_))
        go_roundw
        case rel => exact ⟨7, N + 1, A3, c3, by omega, by first | rfl | simp, rfl, Lib.hid (by have := HN.out; omega), HO3⟩
        case measure => first | (simp [intOf]; done) | (simp [intOf]; omega) | decide
      · have hw8 : IntKind.u8.wrap ((U : Int)) = (db : Int) := by rw [IntKind.wrap_u8]; have h9 : U / 1 % 256 = db := gdb; omega
        have hw9 : IntKind.i64.wrap 0 = 0 := rfl
        have hd1 : decide ((0 : Int) ≤ 0) = true := rfl
        replace hsb : IntKind.i64.wrap (0 - 1) = 7 - ((8 : Nat) : Int) := hsb
        clear hd0 h8m gdb hlt hk
        rw [show (7 : Int) - ((7 : Nat) : Int) = 0 from rfl]
        go_wp2_with (first
          | (at_builtin
             refine wl_run (some 22) rfl (by rfl) (exec_append (by rfl) (by rfl) (by rfl) hrun) ?_))
        go_roundw
        case rel => exact ⟨8, N + 1, A3, c3, by omega, by first | rfl | simp, rfl, Lib.hid (by have := HN.out; omega), HO3⟩
        case measure => first | (simp [intOf]; done) | (simp [intOf]; omega) | decide
    · obtain rfl : k = 8 := by omega
      have hd0 : decide ((0 : Int) ≤ 7 - ((8 : Nat) : Int)) = false := rfl
      have HG : RowKit.Hid (∃ A c, Value.slice A2 N c2 = .slice A N c ∧ Gives8 w (L ++ (beN 8 U).take 8) (.returned (.slice A N c)) wr) := Lib.hid (gives8_ow (by rw [Hl8.out, HN.out]) HO.out)
      clear hlt hk
      go_wp2
      go_ret
      obtain ⟨A9, c9, e9, h9⟩ := HG.out
      injection e9 with a1 a2 a3
      subst a1 a3
      exact h9
end Go.Proofs.Ytahbfdhjgnlmdaa

/- The document's Text, TakeNum, TakeText. -/
namespace Go.Proofs.Ytahbfdhjgnlmdaa
open Go.RowKit
set_option linter.unusedSimpArgs false
set_option linter.unusedVariables false

set_option maxRecDepth 100000 in
set_option maxHeartbeats 4000000 in
theorem rtext_any (A : Option Addr) (c : Nat) (L : List Nat) (s : ByteArray) (w : World) (h : RdS w w.heap.size 1 A L.length c (rowsV f8 L)) (hn : L.length ≤ 900000) (hs : s.size ≤ 10000) :
    Calls Try.prog 23 #[.slice A L.length c, .string s] w (Gives8 w (L ++ textB s)) := by
  obtain ⟨i0, hi, hz0, hz1, hz2⟩ := info_parts_ info_u8
  obtain ⟨A1, c1, w1, hrun, how, hbw⟩ := fresh_copy (P := Try.prog) w 43 43 5 i0 _ 1 1 Try.underlying43 hi hz0 hz1 hz2 rfl (by decide) A L.length c _ h (f8_all L) (by omega) (by decide)
  have ho1 : Ow w w.heap.size 5 1 (.slice A1 L.length c1) L.length (rowsV f8 L) w1 := ⟨how, hbw, Nat.le_refl _, hbw.size⟩
  have e1 : (L ++ [s.size % 256] ++ tB s).length = L.length + 1 + s.size := by simp [tB_len]; omega
  rw [show L ++ textB s = L ++ [s.size % 256] ++ tB s from by rw [textB, List.append_assoc]]
  obtain ⟨S, gS⟩ : ∃ S, s.size = S := ⟨_, rfl⟩
  have Hs := Lib.hid gS
  have hsz : (s.size : Int) = (S : Int) := by rw [gS]
  rw [gS] at e1 hs ⊢
  have hw8 : IntKind.u8.wrap (S : Int) = ((S % 256 : Nat) : Int) := by rw [IntKind.wrap_u8]; omega
  obtain ⟨S8, gS8⟩ : ∃ z, S % 256 = z := ⟨_, rfl⟩
  rw [gS8] at e1 hw8 ⊢
  obtain ⟨A2, c2, w2, hrun2, ho2, -⟩ := app8 43 (Ow.up ho1 (below1 w1 (.cells #[.int .u8 (S8 : Int)] 5))) (one8 w1 S8) (by omega)
  obtain ⟨c3, w3, hrun3, hr3, hb3⟩ := conv_str s w2
  rw [gS] at hrun3 hr3
  obtain ⟨A4, c4, w4, hrun4, ho4, -⟩ := app8 43 (Ow.up ho2 hb3) hr3 (by omega)
  have He1 := Lib.hid e1
  have HO4 := Lib.hid ho4
  obtain ⟨n, gn⟩ : ∃ n, L.length = n := ⟨_, rfl⟩
  rw [gn] at hrun hrun2 hrun4 HO4 He1 ⊢
  clear h hn how hbw ho1 ho2 hr3 hb3 ho4 e1 gn gS gS8 hi hz0 hz1 hz2 hs
  go_enter Try.func23, Try.ntmps23
  go_upto_region 2 with (first
    | (at_builtin
       refine wl_run (some 8) rfl (by rfl) (exec_append (by rfl) (by rfl) (by rfl) hrun) ?_))
  clear hrun
  go_upto_region 3 with (first
    | (at_builtin
       refine wl_run (some 14) rfl (by rfl) (exec_append (by rfl) (by rfl) (by rfl) hrun2) ?_))
  clear hrun2
  refine wp_region_lit ?_
  refine wl_read (v := ?_) (some 15) rfl (by rfl) ?_ ?_
  rotate_left
  · go_simp; (try with_reducible rfl)
  simp only [Act.put, List.setIfInBounds_toArray, List.set_cons_zero, List.set_cons_succ]
  refine wl_read (v := ?_) (some 16) rfl (by rfl) ?_ ?_
  rotate_left
  · go_simp; (try with_reducible rfl)
  simp only [Act.put, List.setIfInBounds_toArray, List.set_cons_zero, List.set_cons_succ]
  refine wl_run (some 17) rfl (by rfl) (exec_convert_w 9 43 (.tmp 16) rfl rfl hrun3) ?_
  simp only [Act.put, List.setIfInBounds_toArray, List.set_cons_zero, List.set_cons_succ]
  clear hrun3
  go_wp2_with (first
    | (at_builtin
       refine wl_run (some 18) rfl (by rfl) (exec_append (by rfl) (by rfl) (by rfl) hrun4) ?_))
  go_ret
  obtain ⟨A9, c9, e9, h9⟩ := gives8_ow He1.out HO4.out
  injection e9 with a1 a2 a3
  subst a1 a3
  exact h9
/-- What the document's TakeNum tells. -/
def GivesRN (w : World) (L : List Nat) (e : Ending) (w' : World) : Prop :=
  ∃ A n c, e = .returned (.tuple #[.int .i64 (if 8 ≤ L.length then num8 (L.take 8) else 0), .slice A n c, .bool (decide (8 ≤ L.length))]) ∧ n = (if 8 ≤ L.length then L.drop 8 else L).length ∧ RdS w' w'.heap.size 1 A n c (rowsV f8 (if 8 ≤ L.length then L.drop 8 else L)) ∧ Below w.heap.size w w'
theorem u64_step (X b : Nat) (hX : X < 72057594037927936) (hb : b < 256) : IntKind.u64.wrap (256 * (X : Int)) = ((256 * X : Nat) : Int) ∧ IntKind.u64.wrap (((256 * X : Nat) : Int) + (b : Int)) = ((X * 256 + b : Nat) : Int) := by
  constructor <;> · rw [IntKind.wrap_u64]; omega
set_option maxRecDepth 100000 in
set_option maxHeartbeats 4000000 in
theorem rtakenum_any (A : Option Addr) (n c : Nat) (L : List Nat) (w : World) (h : RdS w w.heap.size 1 A n c (rowsV f8 L)) (hn : n ≤ 100000) (hb : ∀ b ∈ L, b < 256) :
    Calls Try.prog 17 #[.slice A n c] w (GivesRN w L) := by
  have hl := h.rlen f8_len (by decide)
  unfold GivesRN
  rw [hl]
  by_cases h8 : 8 ≤ n
  · rw [if_pos h8, if_pos h8, decide_eq_true h8]
    have hlow := h.low_ (k := 8) h8
    have hdl : (L.drop 8).length = n - 8 := by rw [List.length_drop, hl]
    rw [show (rowsV f8 L).drop (8 * 1) = rowsV f8 (L.drop 8) from by rw [rowsV_map8, rowsV_map8, List.map_drop], ← hdl] at hlow
    obtain ⟨A1, hA1⟩ : ∃ A1, (if c = 8 then A else A.map (·.add (8 * 1))) = A1 := ⟨_, rfl⟩
    rw [hA1] at hlow
    have HLow := Lib.hid hlow
    obtain ⟨M, gM⟩ : ∃ M, L.drop 8 = M := ⟨_, rfl⟩
    rw [gM] at HLow hdl ⊢
    obtain ⟨m, gm⟩ : ∃ m, M.length = m := ⟨_, rfl⟩
    rw [gm] at HLow hdl ⊢
    obtain ⟨bb, off, rfl, -, hp⟩ := byte_at h (by omega)
    have Hp := Lib.hid hp
    have Hb := Lib.hid hb
    have Hl := Lib.hid hl
    have Hlt := Lib.hid (fun k hk => deN_lt hb k hk)
    have HAr := Lib.hid hA1
    have Hml := Lib.hid hdl.symm
    obtain ⟨x, gx⟩ : ∃ x, num8 (L.take 8) = x := ⟨_, rfl⟩
    have Gx := Lib.hid gx
    rw [gx]
    have hd1 : decide ((n : Int) < 8) = false := decide_eq_false (by omega)
    have hd2 : decide (n < 8) = false := decide_eq_false (by omega)
    have H8 := Lib.hid h8
    clear h hb hlow gM gm hA1 hdl hp gx hl
    go_enter Try.func17, Try.ntmps17
    go_upto_region 4 with fail
    clear hd1 hd2
    go_wp2
    go_loop [5, 6] (fun u i => ∃ k : Nat, k ≤ 8 ∧ u = .int .u64 ((deN (L.take k) : Nat) : Int) ∧ i = .int .i64 (k : Int)) (fun _ i => 8 - (intOf i).toNat)
    case atStart => exact ⟨0, by omega, by simp [deN], by simp⟩
    case round =>
      obtain ⟨k, hk, rfl, rfl⟩ := hrel
      by_cases hlt : k < 8
      · obtain ⟨b, hbk⟩ : ∃ b, L[k]? = some b := ⟨_, List.getElem?_eq_getElem (by have := Hl.out; omega)⟩
        have l0 := Hp.out k b hbk
        have hb6 : b < 256 := Hb.out b (List.mem_of_getElem? hbk)
        have hd : deN (L.take (k + 1)) = deN (L.take k) * 256 + b := by rw [take_snoc_ L k b hbk, deN_snoc]
        have hdl : deN (L.take k) < 72057594037927936 := by
          have h1 := Hlt.out k (by have := Hl.out; omega)
          have h2 : 256 ^ k ≤ 256 ^ 7 := Nat.pow_le_pow_right (by omega) (by omega)
          omega
        obtain ⟨X, gX⟩ : ∃ X, deN (L.take k) = X := ⟨_, rfl⟩
        rw [gX] at hd hdl ⊢
        have Hd := Lib.hid hd
        obtain ⟨hw1, hw3⟩ := u64_step X b hdl hb6
        obtain ⟨X2, gX2⟩ : ∃ z, 256 * X = z := ⟨_, rfl⟩
        rw [gX2] at hw1 hw3
        obtain ⟨X3, gX3⟩ : ∃ z, X * 256 + b = z := ⟨_, rfl⟩
        rw [gX3] at hw3
        have Hd2 : RowKit.Hid (deN (L.take (k + 1)) = X3) := Lib.hid (by rw [hd, gX3])
        have hw2 : IntKind.u64.wrap (b : Int) = (b : Int) := by rw [IntKind.wrap_u64]; omega
        have hk8 : (k : Int) < 8 := by omega
        have hkn : (k : Int) < (n : Int) := by have := H8.out; omega
        clear gX hd hbk gX2 gX3 hdl
        go_wp2
        refine ⟨⟨k + 1, by omega, ?_, by go_num⟩, by simp [intOf]; omega⟩
        rw [Hd2.out]
      · obtain rfl : k = 8 := by omega
        have hwx : IntKind.i64.wrap ((deN (L.take 8) : Nat) : Int) = x := Gx.out
        obtain ⟨X, gX⟩ : ∃ X, deN (L.take 8) = X := ⟨_, rfl⟩
        rw [gX] at hwx ⊢
        clear gX
        go_upto_region 8 with fail
        refine wp_region_reg (Nil_) (by kernel_rfl) ?_
        apply wpR_next 0 (some 23)
        · simp only [List.getElem?_toArray, List.getElem?_cons_succ, List.getElem?_cons_zero]; exact rfl
        · rfl
        · kernel_rfl
        · kernel_rfl
        · kernel_rfl
        · exact fun _ _ _ _ h => h
        apply Exists.intro
        apply And.intro
        · apply yr_run; rfl; intro w' hw'; go_simp; (try with_reducible rfl)
        simp only [Act.put, List.setIfInBounds_toArray, List.set_cons_zero, List.set_cons_succ]
        apply wpR_next 1 (some 24)
        · simp only [List.getElem?_toArray, List.getElem?_cons_succ, List.getElem?_cons_zero]; exact rfl
        · rfl
        · kernel_rfl
        · kernel_rfl
        · kernel_rfl
        · exact fun _ _ _ _ h => h
        apply Exists.intro
        apply And.intro
        · apply yr_run; rfl; intro w' hw'; go_simp; (try with_reducible rfl)
        simp only [Act.put, List.setIfInBounds_toArray, List.set_cons_zero, List.set_cons_succ]
        apply wpR_next 2 (some 25)
        · simp only [List.getElem?_toArray, List.getElem?_cons_succ, List.getElem?_cons_zero]; exact rfl
        · rfl
        · kernel_rfl
        · kernel_rfl
        · kernel_rfl
        · exact fun _ _ _ _ h => h
        apply Exists.intro
        apply And.intro
        · apply yr_run; rfl; intro w' hw'; go_simp; (try with_reducible rfl)
        simp only [Act.put, List.setIfInBounds_toArray, List.set_cons_zero, List.set_cons_succ]
        apply wpR_next 3 (some 26)
        · simp only [List.getElem?_toArray, List.getElem?_cons_succ, List.getElem?_cons_zero]; exact rfl
        · rfl
        · kernel_rfl
        · kernel_rfl
        · kernel_rfl
        · exact fun _ _ _ _ h => h
        apply Exists.intro
        apply And.intro
        · apply yr_run; rfl; intro w' hw'; exact exec_slice_low_as 43 5 (.tmp 25) (.const (.int .i64 8)) rfl Try.underlying43 (s := 1) (by kernel_rfl) rfl rfl H8.out HAr.out Hml.out rfl
        simp only [Act.put, List.setIfInBounds_toArray, List.set_cons_zero, List.set_cons_succ]
        apply wpR_next 4 (some 2)
        · simp only [List.getElem?_toArray, List.getElem?_cons_succ, List.getElem?_cons_zero]; exact rfl
        · rfl
        · kernel_rfl
        · kernel_rfl
        · kernel_rfl
        · exact fun _ _ _ _ h => h
        apply Exists.intro
        apply And.intro
        · apply yr_run; rfl; intro w' hw'; go_simp; (try with_reducible rfl)
        simp only [Act.put, List.setIfInBounds_toArray, List.set_cons_zero, List.set_cons_succ]
        apply wpR_next 5 (some 3)
        · simp only [List.getElem?_toArray, List.getElem?_cons_succ, List.getElem?_cons_zero]; exact rfl
        · rfl
        · kernel_rfl
        · kernel_rfl
        · kernel_rfl
        · exact fun _ _ _ _ h => h
        apply Exists.intro
        apply And.intro
        · apply yr_run; rfl; intro w' hw'; go_simp; (try with_reducible rfl)
        simp only [Act.put, List.setIfInBounds_toArray, List.set_cons_zero, List.set_cons_succ]
        apply wpR_next 6 (some 4)
        · simp only [List.getElem?_toArray, List.getElem?_cons_succ, List.getElem?_cons_zero]; exact rfl
        · rfl
        · kernel_rfl
        · kernel_rfl
        · kernel_rfl
        · exact fun _ _ _ _ h => h
        apply Exists.intro
        apply And.intro
        · apply yr_run; rfl; intro w' hw'; go_simp; (try with_reducible rfl)
        simp only [Act.put, List.setIfInBounds_toArray, List.set_cons_zero, List.set_cons_succ]
        refine wpR_done (by kernel_rfl) ?_ _
        intro w9 hw9
        have HD9 : RowKit.Hid (Ext w w9) := Lib.hid (Ext.trans (below_drewN w.heap.size w 1) hw9)
        clear hw9
        go_wp2
        refine bodyPost_ret (v := .tuple #[.int .i64 x, .slice A1 m (c - 8), .bool true]) (by simp [results, Try.results17, go_sem]) rfl ?_
        exact ⟨A1, m, c - 8, rfl, rfl, HLow.out.bl HD9.out, HD9.out⟩
  · rw [if_neg h8, if_neg h8, decide_eq_false h8]
    have HR := Lib.hid h
    have Hl := Lib.hid hl
    have hd1 : decide ((n : Int) < 8) = true := decide_eq_true (by omega)
    have hd2 : decide (n < 8) = true := decide_eq_true (by omega)
    clear h hb hn hl
    go_enter Try.func17, Try.ntmps17
    go_wp2
    exact bodyPost_ret (v := .tuple #[.int .i64 0, .slice A n c, .bool false]) (by simp [results, Try.results17, go_sem]) rfl ⟨A, n, c, rfl, Hl.out.symm, HR.out, Below.refl _ _⟩
/-- What the document's TakeText tells. -/
def GivesRT (w : World) (L : List Nat) (e : Ending) (w' : World) : Prop :=
  ∃ A n c, e = .returned (.tuple #[.string (txT L), .slice A n c, .bool (isT L)]) ∧ n = (leT L).length ∧ RdS w' w'.heap.size 1 A n c (rowsV f8 (leT L)) ∧ Below w.heap.size w w'

end Go.Proofs.Ytahbfdhjgnlmdaa

/- The document's TakeText. -/
namespace Go.Proofs.Ytahbfdhjgnlmdaa
open Go.RowKit
set_option linter.unusedSimpArgs false
set_option linter.unusedVariables false

set_option maxRecDepth 100000 in
set_option maxHeartbeats 1000000 in
theorem rtaketext_any (A : Option Addr) (c : Nat) (L : List Nat) (w : World) (h : RdS w w.heap.size 1 A L.length c (rowsV f8 L)) (hn : L.length ≤ 100000) (hb : ∀ b ∈ L, b < 256) :
    Calls Try.prog 19 #[.slice A L.length c] w (GivesRT w L) := by
  unfold GivesRT
  by_cases hT : isT L = true
  · obtain ⟨h1, h2⟩ := of_decide_eq_true hT
    obtain ⟨b, hb0⟩ : ∃ b, L[0]? = some b := ⟨_, List.getElem?_eq_getElem (by omega)⟩
    have hc1 : c1 L = b := by unfold c1; cases L with | nil => cases hb0 | cons x L => simpa using hb0
    have hb6 : b < 256 := hb b (List.mem_of_getElem? hb0)
    unfold txT leT
    rw [if_pos hT, if_pos hT, hT]
    rw [hc1] at h2 ⊢
    have hlow := h.low_ (k := 1 + b) h2
    have hdl : (L.drop (1 + b)).length = L.length - (1 + b) := List.length_drop
    rw [show (rowsV f8 L).drop ((1 + b) * 1) = rowsV f8 (L.drop (1 + b)) from by rw [rowsV_map8, rowsV_map8, List.map_drop, Nat.mul_one], ← hdl] at hlow
    obtain ⟨A1, hA1⟩ : ∃ A1, (if c = 1 + b then A else A.map (·.add ((1 + b) * 1))) = A1 := ⟨_, rfl⟩
    rw [hA1] at hlow
    have HLow := Lib.hid hlow
    -- the text
    have hmid := h.low_ (k := 1) h1
    rw [show (rowsV f8 L).drop (1 * 1) = rowsV f8 (L.drop 1) from by rw [rowsV_map8, rowsV_map8, List.map_drop]] at hmid
    obtain ⟨A3, hA3⟩ : ∃ A3, (if c = 1 then A else A.map (·.add (1 * 1))) = A3 := ⟨_, rfl⟩
    rw [hA3] at hmid
    have htk := hmid.take_ b (by omega)
    rw [show (rowsV f8 (L.drop 1)).take (b * 1) = rowsV f8 ((L.drop 1).take b) from by rw [rowsV_map8, rowsV_map8, List.map_take, Nat.mul_one]] at htk
    have HV := Lib.hid (fun W (hW : Ext w W) => conv_txt (htk.up hW hW.size))
    obtain ⟨s, gs⟩ : ∃ s, txt ((L.drop 1).take b) = s := ⟨_, rfl⟩
    rw [gs] at HV ⊢
    obtain ⟨M, gM⟩ : ∃ M, L.drop (1 + b) = M := ⟨_, rfl⟩
    rw [gM] at HLow hdl ⊢
    obtain ⟨bb, off, rfl, -, hp⟩ := byte_at h (by omega)
    have l0 := hp 0 b hb0
    rw [Nat.add_zero] at l0
    obtain ⟨n, gn⟩ : ∃ n, L.length = n := ⟨_, rfl⟩
    have hle := h.le
    rw [gn] at hdl h1 h2 hn hle ⊢
    obtain ⟨m, gm⟩ : ∃ m, M.length = m := ⟨_, rfl⟩
    have Gm := Lib.hid gm
    rw [gm] at HLow hdl ⊢
    have hw1 : IntKind.i64.wrap (1 + (b : Int)) = ((1 + b : Nat) : Int) := by rw [IntWalk.i64_in _ (by omega)]; omega
    have hw2 : IntKind.i64.wrap (b : Int) = (b : Int) := IntWalk.i64_in _ (by omega)
    obtain ⟨e, ge⟩ : ∃ e, 1 + b = e := ⟨_, rfl⟩
    rw [ge] at hw1 hA1 hdl HLow h2
    have heb : RowKit.Hid (e - 1 = b) := Lib.hid (by omega)
    have He1 : RowKit.Hid (1 ≤ e ∧ e ≤ c ∧ e ≤ n) := Lib.hid (by omega)
    have d1 : decide (n ≤ b) = false := decide_eq_false (by omega)
    have d2 : decide ((n : Int) ≤ (b : Int)) = false := decide_eq_false (by omega)
    have d3 : ((n : Int) == 0) = false := beq_eq_false_iff_ne.2 (by omega)
    have d4 : (n == 0) = false := beq_eq_false_iff_ne.2 (by omega)
    have d5 : (0 : Int) < (n : Int) := by omega
    have HAr := Lib.hid hA1
    have HAs := Lib.hid hA3
    have Hml := Lib.hid hdl.symm
    clear h hb hlow hmid htk gs gM gn gm ge hA1 hA3 hdl hb0 hc1 hp hT hle
    go_enter Try.func19, Try.ntmps19
    go_upto_region 4 with fail
    have HD : RowKit.Hid (Ext w w.drew) := Lib.hid (below_drewN w.heap.size w 1)
    refine wp_region_reg (Nil_) (by kernel_rfl) ?_
    apply wpR_next 0 (some 25)
    · simp only [List.getElem?_toArray, List.getElem?_cons_succ, List.getElem?_cons_zero]; exact rfl
    · rfl
    · kernel_rfl
    · kernel_rfl
    · kernel_rfl
    · exact fun _ _ _ _ h => h
    apply Exists.intro
    apply And.intro
    · apply yr_run; rfl; intro w' hw'; go_simp; (try with_reducible rfl)
    simp only [Act.put, List.setIfInBounds_toArray, List.set_cons_zero, List.set_cons_succ]
    apply wpR_next 1 (some 26)
    · simp only [List.getElem?_toArray, List.getElem?_cons_succ, List.getElem?_cons_zero]; exact rfl
    · rfl
    · kernel_rfl
    · kernel_rfl
    · kernel_rfl
    · exact fun _ _ _ _ h => h
    apply Exists.intro
    apply And.intro
    · apply yr_run; rfl; intro w' hw'; go_simp; (try with_reducible rfl)
    simp only [Act.put, List.setIfInBounds_toArray, List.set_cons_zero, List.set_cons_succ]
    apply wpR_next 2 (some 27)
    · simp only [List.getElem?_toArray, List.getElem?_cons_succ, List.getElem?_cons_zero]; exact rfl
    · rfl
    · kernel_rfl
    · kernel_rfl
    · kernel_rfl
    · exact fun _ _ _ _ h => h
    apply Exists.intro
    apply And.intro
    · apply yr_run; rfl; intro w' hw'; exact exec_slice_as 43 5 (.tmp 25) (.const (.int .i64 1)) (.tmp 26) rfl Try.underlying43 (s := 1) (by kernel_rfl) rfl rfl rfl He1.out.1 He1.out.2.1 HAs.out heb.out rfl
    simp only [Act.put, List.setIfInBounds_toArray, List.set_cons_zero, List.set_cons_succ]
    apply wpR_next 3 (some 28)
    · simp only [List.getElem?_toArray, List.getElem?_cons_succ, List.getElem?_cons_zero]; exact rfl
    · rfl
    · kernel_rfl
    · kernel_rfl
    · kernel_rfl
    · exact fun _ _ _ _ h => h
    apply Exists.intro
    apply And.intro
    · apply yr_run; rfl; intro w' hw'; exact exec_convert 43 9 (.tmp 27) rfl rfl (HV.out w' (HD.out.trans hw'.ext_nil))
    simp only [Act.put, List.setIfInBounds_toArray, List.set_cons_zero, List.set_cons_succ]
    apply wpR_next 4 (some 29)
    · simp only [List.getElem?_toArray, List.getElem?_cons_succ, List.getElem?_cons_zero]; exact rfl
    · rfl
    · kernel_rfl
    · kernel_rfl
    · kernel_rfl
    · exact fun _ _ _ _ h => h
    apply Exists.intro
    apply And.intro
    · apply yr_run; rfl; intro w' hw'; go_simp; (try with_reducible rfl)
    simp only [Act.put, List.setIfInBounds_toArray, List.set_cons_zero, List.set_cons_succ]
    apply wpR_next 5 (some 30)
    · simp only [List.getElem?_toArray, List.getElem?_cons_succ, List.getElem?_cons_zero]; exact rfl
    · rfl
    · kernel_rfl
    · kernel_rfl
    · kernel_rfl
    · exact fun _ _ _ _ h => h
    apply Exists.intro
    apply And.intro
    · apply yr_run; rfl; intro w' hw'; go_simp; (try with_reducible rfl)
    simp only [Act.put, List.setIfInBounds_toArray, List.set_cons_zero, List.set_cons_succ]
    apply wpR_next 6 (some 31)
    · simp only [List.getElem?_toArray, List.getElem?_cons_succ, List.getElem?_cons_zero]; exact rfl
    · rfl
    · kernel_rfl
    · kernel_rfl
    · kernel_rfl
    · exact fun _ _ _ _ h => h
    apply Exists.intro
    apply And.intro
    · apply yr_run; rfl; intro w' hw'; exact exec_slice_low_as 43 5 (.tmp 29) (.tmp 30) rfl Try.underlying43 (s := 1) (by kernel_rfl) rfl rfl He1.out.2.2 HAr.out Hml.out rfl
    simp only [Act.put, List.setIfInBounds_toArray, List.set_cons_zero, List.set_cons_succ]
    apply wpR_next 7 (some 2)
    · simp only [List.getElem?_toArray, List.getElem?_cons_succ, List.getElem?_cons_zero]; exact rfl
    · rfl
    · kernel_rfl
    · kernel_rfl
    · kernel_rfl
    · exact fun _ _ _ _ h => h
    apply Exists.intro
    apply And.intro
    · apply yr_run; rfl; intro w' hw'; go_simp; (try with_reducible rfl)
    simp only [Act.put, List.setIfInBounds_toArray, List.set_cons_zero, List.set_cons_succ]
    apply wpR_next 8 (some 3)
    · simp only [List.getElem?_toArray, List.getElem?_cons_succ, List.getElem?_cons_zero]; exact rfl
    · rfl
    · kernel_rfl
    · kernel_rfl
    · kernel_rfl
    · exact fun _ _ _ _ h => h
    apply Exists.intro
    apply And.intro
    · apply yr_run; rfl; intro w' hw'; go_simp; (try with_reducible rfl)
    simp only [Act.put, List.setIfInBounds_toArray, List.set_cons_zero, List.set_cons_succ]
    apply wpR_next 9 (some 4)
    · simp only [List.getElem?_toArray, List.getElem?_cons_succ, List.getElem?_cons_zero]; exact rfl
    · rfl
    · kernel_rfl
    · kernel_rfl
    · kernel_rfl
    · exact fun _ _ _ _ h => h
    apply Exists.intro
    apply And.intro
    · apply yr_run; rfl; intro w' hw'; go_simp; (try with_reducible rfl)
    simp only [Act.put, List.setIfInBounds_toArray, List.set_cons_zero, List.set_cons_succ]
    refine wpR_done (by kernel_rfl) ?_ _
    intro w9 hw9
    have HD9 : RowKit.Hid (Ext w w9) := Lib.hid (Ext.trans HD.out hw9)
    clear hw9
    go_wp2
    refine bodyPost_ret (v := .tuple #[.string s, .slice A1 m (c - e), .bool true]) (by simp [results, Try.results19, go_sem]) rfl ?_
    exact ⟨A1, m, c - e, rfl, rfl, HLow.out.bl HD9.out, HD9.out⟩
  · have hf : isT L = false := by simpa using hT
    unfold txT leT
    rw [if_neg hT, if_neg hT, hf]
    have HR := Lib.hid h
    by_cases h1 : 1 ≤ L.length
    · obtain ⟨b, hb0⟩ : ∃ b, L[0]? = some b := ⟨_, List.getElem?_eq_getElem (by omega)⟩
      have hc1 : c1 L = b := by unfold c1; cases L with | nil => cases hb0 | cons x L => simpa using hb0
      have hb6 : b < 256 := hb b (List.mem_of_getElem? hb0)
      have hlt : ¬ (1 + b ≤ L.length) := fun q => by rw [← hc1] at q; exact hT (decide_eq_true ⟨h1, q⟩)
      obtain ⟨bb, off, rfl, -, hp⟩ := byte_at h (by omega)
      have l0 := hp 0 b hb0
      rw [Nat.add_zero] at l0
      obtain ⟨n, gn⟩ : ∃ n, L.length = n := ⟨_, rfl⟩
      have Gn := Lib.hid gn
      have hle := h.le
      rw [gn] at hlt h1 HR hle ⊢
      have hw2 : IntKind.i64.wrap (b : Int) = (b : Int) := IntWalk.i64_in _ (by omega)
      have d1 : decide (n ≤ b) = true := decide_eq_true (by omega)
      have d2 : decide ((n : Int) ≤ (b : Int)) = true := decide_eq_true (by omega)
      obtain ⟨e, ge⟩ : ∃ z, 1 + b = z := ⟨_, rfl⟩
      have hw1 : IntKind.i64.wrap (1 + (b : Int)) = (e : Int) := by rw [IntWalk.i64_in _ (by omega)]; omega
      have d6 : decide ((n : Int) < (e : Int)) = true := decide_eq_true (by omega)
      have d7 : decide (n < e) = true := decide_eq_true (by omega)
      have d8 : decide ((n : Int) < 1) = false := decide_eq_false (by omega)
      have d9 : decide (n < 1) = false := decide_eq_false (by omega)
      have da : n < e := by omega
      clear d1 d2 ge
      have d3 : ((n : Int) == 0) = false := beq_eq_false_iff_ne.2 (by omega)
      have d4 : (n == 0) = false := beq_eq_false_iff_ne.2 (by omega)
      have d5 : (0 : Int) < (n : Int) := by omega
      clear h hb gn hn hb0 hc1 hp hT hlt hf
      go_enter Try.func19, Try.ntmps19
      go_wp2
      refine bodyPost_ret (v := .tuple #[.string { data := #[] }, .slice (some ⟨bb, off, none⟩) n c, .bool false]) (by simp [results, Try.results19, go_sem, Gn.out]) rfl ?_
      exact ⟨_, n, c, rfl, rfl, HR.out, Below.refl _ _⟩
    · obtain ⟨n, gn⟩ : ∃ n, L.length = n := ⟨_, rfl⟩
      have Gn := Lib.hid gn
      rw [gn] at h1 HR ⊢
      obtain rfl : n = 0 := by omega
      clear h hb gn hn hT hf
      go_enter Try.func19, Try.ntmps19
      go_wp2
      refine bodyPost_ret (v := .tuple #[.string { data := #[] }, .slice A 0 c, .bool false]) (by simp [results, Try.results19, go_sem, Gn.out]) rfl ?_
      exact ⟨A, 0, c, rfl, rfl, HR.out, Below.refl _ _⟩

end Go.Proofs.Ytahbfdhjgnlmdaa

/- PackParts' walk. -/
namespace Go.Proofs.Ytahbfdhjgnlmdaa
open Go.RowKit
set_option linter.unusedSimpArgs false
set_option linter.unusedVariables false

/-- An append onto an empty slice: nothing that was there turns. -/
theorem app0 (ty : TypeId) (g : Nat) {W : World} {A : Option Addr} {n c : Nat} {L : List Nat} (h : RdS W W.heap.size 1 A n c (rowsV f8 L)) (hn : n ≤ 1000000) :
    ∃ A' c' W', (Builtin.append_ #[43, 43] ty #[.slice (some ⟨g, 0, none⟩) 0 0, .slice A n c]).run Try.prog W = .ok (.slice A' n c') W' ∧ RdS W' W'.heap.size 1 A' n c' (rowsV f8 L) ∧ Below W.heap.size W W' := by
  obtain ⟨i0, hi, hz0, hz1, hz2⟩ := info_parts_ info_u8
  have hl := h.rlen f8_len (by decide)
  by_cases h0 : n = 0
  · subst h0
    have hr := run_append_none (P := Try.prog) W 43 ty 5 i0 Try.underlying43 hi (some ⟨g, 0, none⟩) A 0 0 c (Nat.le_refl _)
    obtain rfl : L = [] := List.eq_nil_of_length_eq_zero hl
    exact ⟨_, _, W, hr, ⟨by simp [rowsV], fun _ => ⟨rfl, rfl⟩, Nat.le_refl _, fun a ha hx => absurd hx (by omega), fun a ha j u hu => by simp [rowsV] at hu⟩, Below.refl _ _⟩
  · cases A with
    | none => have := (h.none_ rfl).1; omega
    | some a =>
      have hr := run_append_grow (P := Try.prog) W 43 ty 5 i0 _ Try.underlying43 hi hz0 ⟨g, 0, none⟩ 0 0 [] (by simp) (fun j u hj => by simp at hj) a n c (rowsV f8 L) (by rw [rows8_len, hl, hz1, Nat.mul_one]) (fun j u hj => h.cell a rfl j u hj) (by omega) (by omega) (growslice_fits (by omega) (by rw [hz2]; omega))
      rw [Nat.zero_add] at hr
      have hge := grownCap_ge W n 0 5
      refine ⟨_, _, _, hr, ⟨by rw [rows8_len, hl, Nat.mul_one], fun e => (by cases e), hge, fun b hb _ => (by obtain rfl := Option.some.inj hb; simp), fun b hb j u hu => ?_⟩, ((Below.refl _ _).drew).alloc (Nat.le_refl _) _⟩
      obtain rfl := Option.some.inj hb
      refine World.news_of_block (fr := _) (heap_alloc_new W.drew _) j u ?_
      simp only [List.nil_append, Array.toList_append, List.append_assoc]
      rw [List.getElem?_append_left (List.getElem?_eq_some_iff.1 hu).1]
      exact hu
set_option maxRecDepth 100000 in
set_option maxHeartbeats 4000000 in
theorem law_parts (A : Option Addr) (n c : Nat) (L : List Nat) (x : Int) (hx : In64 x) (s : ByteArray) (w : World) (h : RdS w w.heap.size 1 A n c (rowsV f8 L)) (hb : ∀ b ∈ L, b < 256) :
    Calls Try.prog 4 #[.slice A n c, .int .i64 x, .string s] w fun e w' => e = .returned (.bool true) ∧ Below w.heap.size w w' := by
  have HR := Lib.hid h
  have Hb := Lib.hid hb
  have Hl : RowKit.Hid (L.length = n) := Lib.hid (h.rlen f8_len (by decide))
  have hnc := h.le
  clear h hb hx
  go_enter Try.func4, Try.ntmps4
  go_upto_if 25 with (go_at_call 15; refine (shown08_any _).mono ?_; rintro e w1 ⟨rfl, hb1⟩; have HB1 := Lib.hid hb1; have HR1 := Lib.hid (HR.out.bl hb1); clear hb1 HR)
  go_cut [0] (fun v z => ∃ (n' : Nat) (L' : List Nat), v = .slice A n' c ∧ n' ≤ 300 ∧ L'.length = n' ∧ (∀ b ∈ L', b < 256) ∧ RdS w1 w1.heap.size 1 A n' c (rowsV f8 L') ∧ w1 = z)
  case first =>
    by_cases hn : 300 < n
    · have ht : (300 : Int) < (n : Int) := by omega
      have h100 : 300 ≤ c := by omega
      go_wp2_with fail
      go_meet
      refine ⟨300, L.take 300, rfl, Nat.le_refl _, by rw [List.length_take, Hl.out]; omega, fun b hb => Hb.out b (List.mem_of_mem_take hb), ?_, rfl⟩
      have t1 := HR1.out.take_ 300 (by omega)
      rw [rowsV_map8] at t1 ⊢
      rw [List.map_take]
      exact t1
    · have ht : ¬ (300 : Int) < (n : Int) := by omega
      go_wp2_with fail
      go_meet
      exact ⟨n, L, rfl, by omega, Hl.out, Hb.out, HR1.out, rfl⟩
  case rest =>
  obtain ⟨n', L', rfl, hn', hl', hb', hr', hz⟩ := hcut
  subst hz
  have HL := Lib.hid hr'
  have Hl' := Lib.hid hl'
  have Hb' := Lib.hid hb'
  have Hn' := Lib.hid hn'
  clear hr' hl' hb' HR1 Hb Hl hnc hn'
  go_upto_if 30 with fail
  go_cut [2] (fun v z => ∃ s' : ByteArray, v = .string s' ∧ s'.size ≤ 255 ∧ w1 = z)
  case first =>
    by_cases hs : 255 < s.size
    · have ht : (255 : Int) < (s.size : Int) := by omega
      go_wp2_with fail
      go_meet
      exact ⟨_, rfl, by simp [ByteArray.size_extract]; try omega, rfl⟩
    · have ht : ¬ (255 : Int) < (s.size : Int) := by omega
      go_wp2_with fail
      go_meet
      exact ⟨s, rfl, by omega, rfl⟩
  case rest =>
  obtain ⟨s', rfl, hs', hz⟩ := hcut
  subst hz
  obtain ⟨n8, g8⟩ : ∃ z, n' + 8 = z := ⟨_, rfl⟩
  obtain ⟨nt, gt⟩ : ∃ z, (L' ++ textB s').length = z := ⟨_, rfl⟩
  have hln := Hl'.out
  have hnn := Hn'.out
  have hl8 : (L' ++ be8 x).length = n8 := by rw [List.length_append, be8_len, hln, g8]
  have HNm : RowKit.Hid (∀ (A : Option Addr) (c : Nat) W, RdS W W.heap.size 1 A n' c (rowsV f8 L') → Calls Try.prog 20 #[.slice A n' c, .int .i64 x] W fun e w' => ∃ A' c', e = .returned (.slice A' n8 c') ∧ RdS w' w'.heap.size 1 A' n8 c' (rowsV f8 (L' ++ be8 x)) ∧ Below W.heap.size W w') := Lib.hid (fun A c W h => by
    subst hln
    refine (num_any A c L' x W h (by omega)).mono ?_
    rintro e w' ⟨A', c', rfl, hr, -, -, hb⟩
    rw [hl8] at hr ⊢
    exact ⟨A', c', rfl, hr, hb⟩)
  have HNr : RowKit.Hid (∀ (A : Option Addr) (c : Nat) W, RdS W W.heap.size 1 A n' c (rowsV f8 L') → Calls Try.prog 21 #[.slice A n' c, .int .i64 x] W fun e w' => ∃ A' c', e = .returned (.slice A' n8 c') ∧ RdS w' w'.heap.size 1 A' n8 c' (rowsV f8 (L' ++ be8 x)) ∧ Below W.heap.size W w') := Lib.hid (fun A c W h => by
    subst hln
    refine (rnum_any A c L' x W h (by omega)).mono ?_
    rintro e w' ⟨A', c', rfl, hr, -, -, hb⟩
    rw [hl8] at hr ⊢
    exact ⟨A', c', rfl, hr, hb⟩)
  have HTm : RowKit.Hid (∀ (A : Option Addr) (c : Nat) W, RdS W W.heap.size 1 A n' c (rowsV f8 L') → Calls Try.prog 22 #[.slice A n' c, .string s'] W fun e w' => ∃ A' c', e = .returned (.slice A' nt c') ∧ RdS w' w'.heap.size 1 A' nt c' (rowsV f8 (L' ++ textB s')) ∧ Below W.heap.size W w') := Lib.hid (fun A c W h => by
    subst hln
    refine (text_any A c L' s' W h (by omega) (by omega)).mono ?_
    rintro e w' ⟨A', c', rfl, hr, -, -, hb⟩
    rw [gt] at hr ⊢
    exact ⟨A', c', rfl, hr, hb⟩)
  have HTr : RowKit.Hid (∀ (A : Option Addr) (c : Nat) W, RdS W W.heap.size 1 A n' c (rowsV f8 L') → Calls Try.prog 23 #[.slice A n' c, .string s'] W fun e w' => ∃ A' c', e = .returned (.slice A' nt c') ∧ RdS w' w'.heap.size 1 A' nt c' (rowsV f8 (L' ++ textB s')) ∧ Below W.heap.size W w') := Lib.hid (fun A c W h => by
    subst hln
    refine (rtext_any A c L' s' W h (by omega) (by omega)).mono ?_
    rintro e w' ⟨A', c', rfl, hr, -, -, hb⟩
    rw [gt] at hr ⊢
    exact ⟨A', c', rfl, hr, hb⟩)
  obtain ⟨P1, gP1⟩ : ∃ z, L' ++ be8 x = z := ⟨_, rfl⟩
  obtain ⟨P2, gP2⟩ : ∃ z, L' ++ textB s' = z := ⟨_, rfl⟩
  rw [gP1] at HNm HNr
  rw [gP2] at HTm HTr
  obtain ⟨t1, gt1⟩ : ∃ z, txt P1 = z := ⟨_, rfl⟩
  obtain ⟨t2, gt2⟩ : ∃ z, txt P2 = z := ⟨_, rfl⟩
  have HV1 : RowKit.Hid (∀ (A : Option Addr) (c : Nat) W, RdS W W.heap.size 1 A n8 c (rowsV f8 P1) → (convert 43 9 (.slice A n8 c)).run Try.prog W = .ok (.string t1) W) := Lib.hid (fun A c W h => gt1 ▸ conv_txt h)
  have HV2 : RowKit.Hid (∀ (A : Option Addr) (c : Nat) W, RdS W W.heap.size 1 A nt c (rowsV f8 P2) → (convert 43 9 (.slice A nt c)).run Try.prog W = .ok (.string t2) W) := Lib.hid (fun A c W h => gt2 ▸ conv_txt h)
  obtain ⟨vN, gvN⟩ : ∃ z, (if 8 ≤ L'.length then num8 (L'.take 8) else 0) = z := ⟨_, rfl⟩
  obtain ⟨rN, grN⟩ : ∃ z, (if 8 ≤ L'.length then L'.drop 8 else L') = z := ⟨_, rfl⟩
  obtain ⟨bN, gbN⟩ : ∃ z, decide (8 ≤ L'.length) = z := ⟨_, rfl⟩
  have HKn : RowKit.Hid (∀ (A : Option Addr) (c : Nat) W, RdS W W.heap.size 1 A n' c (rowsV f8 L') → Calls Try.prog 16 #[.slice A n' c] W fun e w' => ∃ A' c', e = .returned (.tuple #[.int .i64 vN, .slice A' rN.length c', .bool bN]) ∧ RdS w' w'.heap.size 1 A' rN.length c' (rowsV f8 rN) ∧ Below W.heap.size W w') := Lib.hid (fun A c W h => by
    subst hln
    have h9 := takenum_any A c L' W h (by omega) Hb'.out
    unfold GivesTN at h9
    rw [gvN, grN, gbN] at h9
    refine h9.mono ?_
    rintro e w' ⟨A', q, c', rfl, rfl, ho, hb⟩
    exact ⟨A', c', rfl, own_rds ho, hb⟩)
  have HKr : RowKit.Hid (∀ (A : Option Addr) (c : Nat) W, RdS W W.heap.size 1 A n' c (rowsV f8 L') → Calls Try.prog 17 #[.slice A n' c] W fun e w' => ∃ A' c', e = .returned (.tuple #[.int .i64 vN, .slice A' rN.length c', .bool bN]) ∧ RdS w' w'.heap.size 1 A' rN.length c' (rowsV f8 rN) ∧ Below W.heap.size W w') := Lib.hid (fun A c W h => by
    have h9 := rtakenum_any A n' c L' W h (by omega) Hb'.out
    unfold GivesRN at h9
    rw [gvN, grN, gbN] at h9
    refine h9.mono ?_
    rintro e w' ⟨A', q, c', rfl, rfl, ho, hb⟩
    exact ⟨A', c', rfl, ho, hb⟩)
  obtain ⟨qN, gqN⟩ : ∃ z, rN.length = z := ⟨_, rfl⟩
  rw [gqN] at HKn HKr
  obtain ⟨vT, gvT⟩ : ∃ z, txT L' = z := ⟨_, rfl⟩
  obtain ⟨rT, grT⟩ : ∃ z, leT L' = z := ⟨_, rfl⟩
  obtain ⟨bT, gbT⟩ : ∃ z, isT L' = z := ⟨_, rfl⟩
  have HKt : RowKit.Hid (∀ (A : Option Addr) (c : Nat) W, RdS W W.heap.size 1 A n' c (rowsV f8 L') → Calls Try.prog 18 #[.slice A n' c] W fun e w' => ∃ A' c', e = .returned (.tuple #[.string vT, .slice A' rT.length c', .bool bT]) ∧ RdS w' w'.heap.size 1 A' rT.length c' (rowsV f8 rT) ∧ Below W.heap.size W w') := Lib.hid (fun A c W h => by
    subst hln
    have h9 := taketext_any A c L' W h (by omega) Hb'.out
    unfold GivesTT at h9
    rw [gvT, grT, gbT] at h9
    refine h9.mono ?_
    rintro e w' ⟨A', q, c', rfl, rfl, ho, hb⟩
    exact ⟨A', c', rfl, own_rds ho, hb⟩)
  have HKu : RowKit.Hid (∀ (A : Option Addr) (c : Nat) W, RdS W W.heap.size 1 A n' c (rowsV f8 L') → Calls Try.prog 19 #[.slice A n' c] W fun e w' => ∃ A' c', e = .returned (.tuple #[.string vT, .slice A' rT.length c', .bool bT]) ∧ RdS w' w'.heap.size 1 A' rT.length c' (rowsV f8 rT) ∧ Below W.heap.size W w') := Lib.hid (fun A c W h => by
    subst hln
    have h9 := rtaketext_any A c L' W h (by omega) Hb'.out
    unfold GivesRT at h9
    rw [gvT, grT, gbT] at h9
    refine h9.mono ?_
    rintro e w' ⟨A', q, c', rfl, rfl, ho, hb⟩
    exact ⟨A', c', rfl, ho, hb⟩)
  obtain ⟨qT, gqT⟩ : ∃ z, rT.length = z := ⟨_, rfl⟩
  rw [gqT] at HKt HKu
  obtain ⟨u1, gu1⟩ : ∃ z, txt rN = z := ⟨_, rfl⟩
  obtain ⟨u2, gu2⟩ : ∃ z, txt rT = z := ⟨_, rfl⟩
  have HV3 : RowKit.Hid (∀ (A : Option Addr) (c : Nat) W, RdS W W.heap.size 1 A qN c (rowsV f8 rN) → (convert 43 9 (.slice A qN c)).run Try.prog W = .ok (.string u1) W) := Lib.hid (fun A c W h => gu1 ▸ conv_txt h)
  have HV4 : RowKit.Hid (∀ (A : Option Addr) (c : Nat) W, RdS W W.heap.size 1 A qT c (rowsV f8 rT) → (convert 43 9 (.slice A qT c)).run Try.prog W = .ok (.string u2) W) := Lib.hid (fun A c W h => gu2 ▸ conv_txt h)
  clear hs' g8 gt hln hl8 gP1 gP2 gt1 gt2 gvN grN gbN gqN gvT grT gbT gqT gu1 gu2 Hb' Hl'
  -- the numbers
  obtain ⟨A2, c2, w2, hrun, hr2, hb2⟩ := app0 43 w1.heap.size (HL.out.al (.cells #[] 5)) (by omega)
  have hb2' : Ext w1 w2 := Ext.trans (below1 w1 (.cells #[] 5)) hb2
  have HL2 := Lib.hid (HL.out.bl hb2')
  have HB2 : RowKit.Hid (Below w.heap.size w w2) := Lib.hid (Ext.trans HB1.out hb2')
  have HC2 := Lib.hid hr2
  clear hr2 hb2 hb2' hnn
  go_upto_region 7 with (first
    | (at_builtin
       refine wl_run (some 36) rfl (by rfl) (exec_append (by rfl) (by rfl) (by rfl) hrun) ?_)
    | (go_at_call 16
       refine (HKn.out A2 c2 _ HC2.out).mono ?_
       rintro e w3 ⟨A3, c3, rfl, hr3, hb3⟩
       have HL3 := Lib.hid (HL2.out.bl hb3)
       have HB3 : RowKit.Hid (Below w.heap.size w w3) := Lib.hid (Ext.trans HB2.out hb3)
       have HN3 := Lib.hid hr3
       clear hr3 hb3))
  clear hrun HC2 HL2 HB2 HL HB1 HKn
  go_upto_region 8 with (first
    | (go_at_call 17
       refine (HKr.out A c _ HL3.out).mono ?_
       rintro e w4 ⟨A4, c4, rfl, hr4, hb4⟩
       have HL4 := Lib.hid (HL3.out.bl hb4)
       have HB4 : RowKit.Hid (Below w.heap.size w w4) := Lib.hid (Ext.trans HB3.out hb4)
       have HN4 := Lib.hid (HN3.out.bl hb4)
       have HM4 := Lib.hid hr4
       clear hr4 hb4 HL3 HB3 HN3 HKr))
  obtain ⟨A5, c5, w5, hrun, hr5, hb5⟩ := app0 43 w4.heap.size (HL4.out.al (.cells #[] 5)) (by have := Hn'.out; omega)
  have hb5' : Ext w4 w5 := Ext.trans (below1 w4 (.cells #[] 5)) hb5
  have HL5 := Lib.hid (HL4.out.bl hb5')
  have HN5 := Lib.hid (HN4.out.bl hb5')
  have HM5 := Lib.hid (HM4.out.bl hb5')
  have HB5 : RowKit.Hid (Below w.heap.size w w5) := Lib.hid (Ext.trans HB4.out hb5')
  have HC5 := Lib.hid hr5
  clear hr5 hb5 hb5'
  go_upto_region 9 with (first
    | (at_builtin
       refine wl_run (some 50) rfl (by rfl) (exec_append (by rfl) (by rfl) (by rfl) hrun) ?_)
    | (go_at_call 18
       refine (HKt.out A5 c5 _ HC5.out).mono ?_
       rintro e w6 ⟨A6, c6, rfl, hr6, hb6⟩
       have HL6 := Lib.hid (HL5.out.bl hb6)
       have HN6 := Lib.hid (HN5.out.bl hb6)
       have HM6 := Lib.hid (HM5.out.bl hb6)
       have HB6 : RowKit.Hid (Below w.heap.size w w6) := Lib.hid (Ext.trans HB5.out hb6)
       have HT6 := Lib.hid hr6
       clear hr6 hb6))
  clear hrun HC5 HL5 HN5 HM5 HB5 HL4 HN4 HM4 HB4 HKt
  go_upto_region 10 with (first
    | (go_at_call 19
       refine (HKu.out A c _ HL6.out).mono ?_
       rintro e w7 ⟨A7, c7, rfl, hr7, hb7⟩
       have HL7 := Lib.hid (HL6.out.bl hb7)
       have HN7 := Lib.hid (HN6.out.bl hb7)
       have HM7 := Lib.hid (HM6.out.bl hb7)
       have HT7 := Lib.hid (HT6.out.bl hb7)
       have HU7 := Lib.hid hr7
       have HB7 : RowKit.Hid (Below w.heap.size w w7) := Lib.hid (Ext.trans HB6.out hb7)
       clear hr7 hb7 HL6 HN6 HM6 HT6 HB6 HKu))
  have hD7 : RowKit.Hid (Ext w7 w7.drew) := Lib.hid (below_drewN w7.heap.size w7 1)
  refine wp_region_reg (Nil_) (by kernel_rfl) ?_
  apply wpR_next 1 (some 62)
  · simp only [List.getElem?_toArray, List.getElem?_cons_succ, List.getElem?_cons_zero]; exact rfl
  · rfl
  · kernel_rfl
  · kernel_rfl
  · kernel_rfl
  · exact fun _ _ _ _ h => h
  apply Exists.intro
  apply And.intro
  · apply yr_run; rfl; intro w' hw'; go_simp; (try with_reducible rfl)
  simp only [Act.put, List.setIfInBounds_toArray, List.set_cons_zero, List.set_cons_succ]
  apply wpR_next 3 (some 64)
  · simp only [List.getElem?_toArray, List.getElem?_cons_succ, List.getElem?_cons_zero]; exact rfl
  · rfl
  · kernel_rfl
  · kernel_rfl
  · kernel_rfl
  · exact fun _ _ _ _ h => h
  apply Exists.intro
  apply And.intro
  · apply yr_run; rfl; intro w' hw'; go_simp; (try with_reducible rfl)
  simp only [Act.put, List.setIfInBounds_toArray, List.set_cons_zero, List.set_cons_succ]
  apply wpR_next 6 (some 67)
  · simp only [List.getElem?_toArray, List.getElem?_cons_succ, List.getElem?_cons_zero]; exact rfl
  · rfl
  · kernel_rfl
  · kernel_rfl
  · kernel_rfl
  · exact fun _ _ _ _ h => h
  apply Exists.intro
  apply And.intro
  · apply yr_run; rfl; intro w' hw'; go_simp; (try with_reducible rfl)
  simp only [Act.put, List.setIfInBounds_toArray, List.set_cons_zero, List.set_cons_succ]
  apply wpR_next 7 (some 68)
  · simp only [List.getElem?_toArray, List.getElem?_cons_succ, List.getElem?_cons_zero]; exact rfl
  · rfl
  · kernel_rfl
  · kernel_rfl
  · kernel_rfl
  · exact fun _ _ _ _ h => h
  apply Exists.intro
  apply And.intro
  · apply yr_run; rfl; intro w' hw'; go_simp; (try with_reducible rfl)
  simp only [Act.put, List.setIfInBounds_toArray, List.set_cons_zero, List.set_cons_succ]
  apply wpR_run 0 (some 61)
  · simp only [List.getElem?_toArray, List.getElem?_cons_succ, List.getElem?_cons_zero]; exact rfl
  · rfl
  · kernel_rfl
  · rfl
  intro w' hw'
  refine ⟨.slice (some ⟨w'.heap.size, 0, none⟩) 0 0, w'.alloc (.cells #[] 5), by (go_simp; first | done | exact rfl | exact ⟨rfl, rfl⟩), Kept.of_below (below1 _ _), ?_⟩
  have HEa := Lib.hid (Ext.trans (Ext.trans hD7.out hw') (below1 w' (.cells #[] 5)))
  obtain ⟨wb, gwb⟩ : ∃ z, w'.alloc (.cells #[] 5) = z := ⟨_, rfl⟩
  obtain ⟨gb, ggb⟩ : ∃ z, w'.heap.size = z := ⟨_, rfl⟩
  rw [gwb] at HEa ⊢
  rw [ggb]
  clear gwb ggb hw' 
  simp only [Act.put, List.setIfInBounds_toArray, List.set_cons_zero, List.set_cons_succ]
  apply wpR_run 2 (some 63)
  · simp only [List.getElem?_toArray, List.getElem?_cons_succ, List.getElem?_cons_zero]; exact rfl
  · rfl
  · kernel_rfl
  · rfl
  intro w' hw'
  obtain ⟨A8, c8, w8, hrun, hr8, hb8⟩ := app0 43 gb (HL7.out.bl (Ext.trans HEa.out hw')) (by have := Hn'.out; omega)
  refine ⟨_, w8, exec_append (by rfl) (by rfl) (by rfl) hrun, Kept.of_below hb8, ?_⟩
  have HEb := Lib.hid (Ext.trans (Ext.trans HEa.out hw') hb8)
  have HCb := Lib.hid hr8
  clear hrun hr8 hb8 hw' HEa
  simp only [Act.put, List.setIfInBounds_toArray, List.set_cons_zero, List.set_cons_succ]
  apply wpR_call 4 (some 65)
  · simp only [List.getElem?_toArray, List.getElem?_cons_succ, List.getElem?_cons_zero]; exact rfl
  · rfl
  · kernel_rfl
  · rfl
  · intro w'; go_simp; first | done | exact ⟨rfl, rfl⟩ | with_reducible rfl
  intro w' hw'
  refine (HNm.out A8 c8 w' (HCb.out.bl hw')).mono ?_
  rintro e w9 ⟨A9, c9, rfl, hr9, hb9⟩
  refine ⟨_, rfl, Kept.of_below hb9, ?_⟩
  have HEc := Lib.hid (Ext.trans (Ext.trans HEb.out hw') hb9)
  have HQc := Lib.hid hr9
  clear hr9 hb9 hw' HEb HCb
  simp only [Act.put, List.setIfInBounds_toArray, List.set_cons_zero, List.set_cons_succ]
  apply wpR_next 5 (some 66)
  · simp only [List.getElem?_toArray, List.getElem?_cons_succ, List.getElem?_cons_zero]; exact rfl
  · rfl
  · kernel_rfl
  · kernel_rfl
  · kernel_rfl
  · exact fun _ _ _ _ h => h
  apply Exists.intro
  apply And.intro
  · apply yr_run; rfl; intro w' hw'; exact exec_convert 43 9 (.tmp 65) rfl rfl (HV1.out _ _ _ (HQc.out.bl hw'.ext_nil))
  simp only [Act.put, List.setIfInBounds_toArray, List.set_cons_zero, List.set_cons_succ]
  apply wpR_call 8 (some 69)
  · simp only [List.getElem?_toArray, List.getElem?_cons_succ, List.getElem?_cons_zero]; exact rfl
  · rfl
  · kernel_rfl
  · rfl
  · intro w'; go_simp; first | done | exact ⟨rfl, rfl⟩ | with_reducible rfl
  intro w' hw'
  refine (HNr.out A c w' (HL7.out.bl (Ext.trans HEc.out hw'))).mono ?_
  rintro e w10 ⟨A10, c10, rfl, hr10, hb10⟩
  refine ⟨_, rfl, Kept.of_below hb10, ?_⟩
  have HE8 := Lib.hid (Ext.trans (Ext.trans HEc.out hw') hb10)
  have HQ8 := Lib.hid hr10
  clear hr10 hb10 hw' HEc HQc
  simp only [Act.put, List.setIfInBounds_toArray, List.set_cons_zero, List.set_cons_succ]
  apply wpR_next 9 (some 70)
  · simp only [List.getElem?_toArray, List.getElem?_cons_succ, List.getElem?_cons_zero]; exact rfl
  · rfl
  · kernel_rfl
  · kernel_rfl
  · kernel_rfl
  · exact fun _ _ _ _ h => h
  apply Exists.intro
  apply And.intro
  · apply yr_run; rfl; intro w' hw'; exact exec_convert 43 9 (.tmp 69) rfl rfl (HV1.out _ _ _ (HQ8.out.bl hw'.ext_nil))
  simp only [Act.put, List.setIfInBounds_toArray, List.set_cons_zero, List.set_cons_succ]
  apply wpR_next 10 (some 71)
  · simp only [List.getElem?_toArray, List.getElem?_cons_succ, List.getElem?_cons_zero]; exact rfl
  · rfl
  · kernel_rfl
  · kernel_rfl
  · kernel_rfl
  · exact fun _ _ _ _ h => h
  apply Exists.intro
  apply And.intro
  · apply yr_run; rfl; intro w' hw'; go_simp; (try with_reducible rfl)
  simp only [Act.put, List.setIfInBounds_toArray, List.set_cons_zero, List.set_cons_succ]
  apply wpR_next 11 (some 20)
  · simp only [List.getElem?_toArray, List.getElem?_cons_succ, List.getElem?_cons_zero]; exact rfl
  · rfl
  · kernel_rfl
  · kernel_rfl
  · kernel_rfl
  · exact fun _ _ _ _ h => h
  apply Exists.intro
  apply And.intro
  · apply yr_run; rfl; intro w' hw'; go_simp; (try with_reducible rfl)
  simp only [Act.put, List.setIfInBounds_toArray, List.set_cons_zero, List.set_cons_succ]
  refine wpR_done (by kernel_rfl) ?_ _
  intro w11 hw11
  have hE := Ext.trans HE8.out hw11
  have HL8 := Lib.hid (HL7.out.bl hE)
  have HN8 := Lib.hid (HN7.out.bl hE)
  have HM8 := Lib.hid (HM7.out.bl hE)
  have HT8 := Lib.hid (HT7.out.bl hE)
  have HU8 := Lib.hid (HU7.out.bl hE)
  have HB8 : RowKit.Hid (Below w.heap.size w w11) := Lib.hid (Ext.trans HB7.out hE)
  clear hw11 hE HE8 HQ8 HL7 HN7 HM7 HT7 HU7 HB7 hD7 HNm HNr HV1
  go_upto_region 11 with fail
  have hD7 : RowKit.Hid (Ext w11 w11.drew) := Lib.hid (below_drewN w11.heap.size w11 1)
  have HL7 := HL8
  refine wp_region_reg (Nil_) (by kernel_rfl) ?_
  apply wpR_next 1 (some 73)
  · simp only [List.getElem?_toArray, List.getElem?_cons_succ, List.getElem?_cons_zero]; exact rfl
  · rfl
  · kernel_rfl
  · kernel_rfl
  · kernel_rfl
  · exact fun _ _ _ _ h => h
  apply Exists.intro
  apply And.intro
  · apply yr_run; rfl; intro w' hw'; go_simp; (try with_reducible rfl)
  simp only [Act.put, List.setIfInBounds_toArray, List.set_cons_zero, List.set_cons_succ]
  apply wpR_next 3 (some 75)
  · simp only [List.getElem?_toArray, List.getElem?_cons_succ, List.getElem?_cons_zero]; exact rfl
  · rfl
  · kernel_rfl
  · kernel_rfl
  · kernel_rfl
  · exact fun _ _ _ _ h => h
  apply Exists.intro
  apply And.intro
  · apply yr_run; rfl; intro w' hw'; go_simp; (try with_reducible rfl)
  simp only [Act.put, List.setIfInBounds_toArray, List.set_cons_zero, List.set_cons_succ]
  apply wpR_next 6 (some 78)
  · simp only [List.getElem?_toArray, List.getElem?_cons_succ, List.getElem?_cons_zero]; exact rfl
  · rfl
  · kernel_rfl
  · kernel_rfl
  · kernel_rfl
  · exact fun _ _ _ _ h => h
  apply Exists.intro
  apply And.intro
  · apply yr_run; rfl; intro w' hw'; go_simp; (try with_reducible rfl)
  simp only [Act.put, List.setIfInBounds_toArray, List.set_cons_zero, List.set_cons_succ]
  apply wpR_next 7 (some 79)
  · simp only [List.getElem?_toArray, List.getElem?_cons_succ, List.getElem?_cons_zero]; exact rfl
  · rfl
  · kernel_rfl
  · kernel_rfl
  · kernel_rfl
  · exact fun _ _ _ _ h => h
  apply Exists.intro
  apply And.intro
  · apply yr_run; rfl; intro w' hw'; go_simp; (try with_reducible rfl)
  simp only [Act.put, List.setIfInBounds_toArray, List.set_cons_zero, List.set_cons_succ]
  apply wpR_run 0 (some 72)
  · simp only [List.getElem?_toArray, List.getElem?_cons_succ, List.getElem?_cons_zero]; exact rfl
  · rfl
  · kernel_rfl
  · rfl
  intro w' hw'
  refine ⟨.slice (some ⟨w'.heap.size, 0, none⟩) 0 0, w'.alloc (.cells #[] 5), by (go_simp; first | done | exact rfl | exact ⟨rfl, rfl⟩), Kept.of_below (below1 _ _), ?_⟩
  have HEa := Lib.hid (Ext.trans (Ext.trans hD7.out hw') (below1 w' (.cells #[] 5)))
  obtain ⟨wb, gwb⟩ : ∃ z, w'.alloc (.cells #[] 5) = z := ⟨_, rfl⟩
  obtain ⟨gb, ggb⟩ : ∃ z, w'.heap.size = z := ⟨_, rfl⟩
  rw [gwb] at HEa ⊢
  rw [ggb]
  clear gwb ggb hw' 
  simp only [Act.put, List.setIfInBounds_toArray, List.set_cons_zero, List.set_cons_succ]
  apply wpR_run 2 (some 74)
  · simp only [List.getElem?_toArray, List.getElem?_cons_succ, List.getElem?_cons_zero]; exact rfl
  · rfl
  · kernel_rfl
  · rfl
  intro w' hw'
  obtain ⟨A8, c8, w8, hrun, hr8, hb8⟩ := app0 43 gb (HL7.out.bl (Ext.trans HEa.out hw')) (by have := Hn'.out; omega)
  refine ⟨_, w8, exec_append (by rfl) (by rfl) (by rfl) hrun, Kept.of_below hb8, ?_⟩
  have HEb := Lib.hid (Ext.trans (Ext.trans HEa.out hw') hb8)
  have HCb := Lib.hid hr8
  clear hrun hr8 hb8 hw' HEa
  simp only [Act.put, List.setIfInBounds_toArray, List.set_cons_zero, List.set_cons_succ]
  apply wpR_call 4 (some 76)
  · simp only [List.getElem?_toArray, List.getElem?_cons_succ, List.getElem?_cons_zero]; exact rfl
  · rfl
  · kernel_rfl
  · rfl
  · intro w'; go_simp; first | done | exact ⟨rfl, rfl⟩ | with_reducible rfl
  intro w' hw'
  refine (HTm.out A8 c8 w' (HCb.out.bl hw')).mono ?_
  rintro e w9 ⟨A9, c9, rfl, hr9, hb9⟩
  refine ⟨_, rfl, Kept.of_below hb9, ?_⟩
  have HEc := Lib.hid (Ext.trans (Ext.trans HEb.out hw') hb9)
  have HQc := Lib.hid hr9
  clear hr9 hb9 hw' HEb HCb
  simp only [Act.put, List.setIfInBounds_toArray, List.set_cons_zero, List.set_cons_succ]
  apply wpR_next 5 (some 77)
  · simp only [List.getElem?_toArray, List.getElem?_cons_succ, List.getElem?_cons_zero]; exact rfl
  · rfl
  · kernel_rfl
  · kernel_rfl
  · kernel_rfl
  · exact fun _ _ _ _ h => h
  apply Exists.intro
  apply And.intro
  · apply yr_run; rfl; intro w' hw'; exact exec_convert 43 9 (.tmp 76) rfl rfl (HV2.out _ _ _ (HQc.out.bl hw'.ext_nil))
  simp only [Act.put, List.setIfInBounds_toArray, List.set_cons_zero, List.set_cons_succ]
  apply wpR_call 8 (some 80)
  · simp only [List.getElem?_toArray, List.getElem?_cons_succ, List.getElem?_cons_zero]; exact rfl
  · rfl
  · kernel_rfl
  · rfl
  · intro w'; go_simp; first | done | exact ⟨rfl, rfl⟩ | with_reducible rfl
  intro w' hw'
  refine (HTr.out A c w' (HL7.out.bl (Ext.trans HEc.out hw'))).mono ?_
  rintro e w10 ⟨A10, c10, rfl, hr10, hb10⟩
  refine ⟨_, rfl, Kept.of_below hb10, ?_⟩
  have HE8 := Lib.hid (Ext.trans (Ext.trans HEc.out hw') hb10)
  have HQ8 := Lib.hid hr10
  clear hr10 hb10 hw' HEc HQc
  simp only [Act.put, List.setIfInBounds_toArray, List.set_cons_zero, List.set_cons_succ]
  apply wpR_next 9 (some 81)
  · simp only [List.getElem?_toArray, List.getElem?_cons_succ, List.getElem?_cons_zero]; exact rfl
  · rfl
  · kernel_rfl
  · kernel_rfl
  · kernel_rfl
  · exact fun _ _ _ _ h => h
  apply Exists.intro
  apply And.intro
  · apply yr_run; rfl; intro w' hw'; exact exec_convert 43 9 (.tmp 80) rfl rfl (HV2.out _ _ _ (HQ8.out.bl hw'.ext_nil))
  simp only [Act.put, List.setIfInBounds_toArray, List.set_cons_zero, List.set_cons_succ]
  apply wpR_next 10 (some 82)
  · simp only [List.getElem?_toArray, List.getElem?_cons_succ, List.getElem?_cons_zero]; exact rfl
  · rfl
  · kernel_rfl
  · kernel_rfl
  · kernel_rfl
  · exact fun _ _ _ _ h => h
  apply Exists.intro
  apply And.intro
  · apply yr_run; rfl; intro w' hw'; go_simp; (try with_reducible rfl)
  simp only [Act.put, List.setIfInBounds_toArray, List.set_cons_zero, List.set_cons_succ]
  apply wpR_next 11 (some 21)
  · simp only [List.getElem?_toArray, List.getElem?_cons_succ, List.getElem?_cons_zero]; exact rfl
  · rfl
  · kernel_rfl
  · kernel_rfl
  · kernel_rfl
  · exact fun _ _ _ _ h => h
  apply Exists.intro
  apply And.intro
  · apply yr_run; rfl; intro w' hw'; go_simp; (try with_reducible rfl)
  simp only [Act.put, List.setIfInBounds_toArray, List.set_cons_zero, List.set_cons_succ]
  refine wpR_done (by kernel_rfl) ?_ _
  intro w12 hw12
  have hE := Ext.trans HE8.out hw12
  have HN9 := Lib.hid (HN8.out.bl hE)
  have HM9 := Lib.hid (HM8.out.bl hE)
  have HT9 := Lib.hid (HT8.out.bl hE)
  have HU9 := Lib.hid (HU8.out.bl hE)
  have HB9 : RowKit.Hid (Below w.heap.size w w12) := Lib.hid (Ext.trans HB8.out hE)
  clear hw12 hE HE8 HQ8
  have v1 := HV3.out _ _ _ HN9.out
  have v2 := HV3.out _ _ _ HM9.out
  have v3 := HV4.out _ _ _ HT9.out
  have v4 := HV4.out _ _ _ HU9.out
  clear HV3 HV4
  go_wp2
  go_ret
  exact ⟨by first | rfl | simp, HB9.out⟩
end Go.Proofs.Ytahbfdhjgnlmdaa

/- 'PackParts' answers true for every row of bytes, every number and every text.
   No condition beyond the row's own. -/
namespace Go.Proofs.Ytahbfdhjgnlmdaa
open Go.ChangeShapes Go.WideShapes Go.ChangeAt Go.RowKit
namespace lawPackParts

set_option maxRecDepth 100000 in
theorem contract (H : Type) (enc : TypeId × Value → H) (W : World) (base : Nat) (args : Array Value) (ds gs : List (DataW H)) (before : List MemPlace)
    (hval : ∀ (j : Nat) t v, Try.f4.params[j]? = some t → args[j]? = some v → Value.okWide Try.prog W .any base t v)
    (hW : DataW.Whole enc Try.prog Try.f4.params.toList Rows.packPartsSpec.vars false W args.toList ds gs before) :
    Calls Try.prog 4 args W fun e W' => ∃ v, e = .returned v ∧ Rows.packPartsSpec.post enc Try.prog Try.f4 false true false false W args v W' := by
  have hW' := hW
  obtain ⟨p, q, hA, hV, rfl, hfz, hnd⟩ := hW
  obtain ⟨rfl, rfl⟩ := trodVars_none hV
  rw [Try.params4] at hA hval
  obtain ⟨v0, v1, v2, d0, d1, d2, p0, p1, p2, rfl, rfl, rfl, h0, h1, h2⟩ := trodAll_three hA
  obtain ⟨b, rfl, hx0⟩ := open_row1_slice (row1_byte H) Try.underlying43 (by kernel_rfl) f8_len (by decide) (hval 0 43 v0 rfl rfl) h0
  obtain ⟨x, rfl, h1b, -, hy1⟩ := open_int Try.underlying3 (hval 1 3 v1 rfl rfl) h1
  obtain ⟨s, rfl, h2b, -, hx2⟩ := Go.ChangeMaps.open_string Try.underlying9 (hval 2 9 v2 rfl rfl) h2
  refine (law_parts b.1 b.2.1 b.2.2.1 b.2.2.2 x (in64_of hy1) s W hx0.2.1 hx0.2.2).mono fun e W' ⟨he, hb⟩ => ⟨_, he, ?_⟩
  exact law_post Try.laidOut (by kernel_rfl) (tb := 4) (by kernel_rfl) Try.underlying4 rfl ⟨rfl, rfl, rfl⟩ hW' hb

set_option maxRecDepth 100000 in
theorem lifted (os : Os) (started : os.Started) (H : Type) (enc : TypeId × Value → H) :
    ReturnsInHanded {} Try.checked os 4 .any (Rows.packPartsSpec.pre6 enc Try.prog Try.f4 Rows.packPartsRow.domain false) (Rows.packPartsSpec.post enc Try.prog Try.f4 false true false false) := by
  refine returnsInHanded_of_change (C := Try.checked) Try.own started (by kernel_rfl) Try.func4
    (ChangeSpec.witness6 (enc := enc) (C := Try.checked) false ⟨#[], #[.slice none 0 0, .int .i64 0, .string ByteArray.empty], []⟩ 8 (by kernel_rfl) (by kernel_rfl) (by kernel_rfl) (by kernel_rfl)) ?_
  intro W base args ds gs before hval hW _ _
  exact contract H enc W base args ds gs before hval hW

theorem proved : Rows.PackPartsSaid :=
  OpenClaim.holds_of_wide 4 Try.f4 rfl rfl rfl rfl rfl rfl rfl ⟨rfl, rfl, rfl, rfl, rfl⟩ rfl rfl rfl rfl rfl (by kernel_rfl) Try.func4 (by kernel_rfl)
    (of_decide_eq_true (by kernel_rfl)) (by unfold Func.isWrapper; first | (rw [if_pos (by decide +kernel)]; kernel_rfl) | (rw [if_neg (by decide +kernel)]; exact ⟨rfl, rfl⟩))
    (fun os started H enc _ => lifted os started H enc)
end lawPackParts
end Go.Proofs.Ytahbfdhjgnlmdaa
