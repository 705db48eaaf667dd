/- The contract of frame.Put. -/
import Derived.Test.YtgmjehejaailpaaFr3
import Derived.Test.YtgmjehejaailpaaOw4
namespace Go.Proofs.Ytgmjehejaailpaa
open Go.RowKit
set_option linter.unusedSimpArgs false
set_option linter.unusedVariables false

/-- A number's four bytes, the highest first. -/
def be4 (x : Int) : List Nat := [(x / 16777216 % 256).toNat, (x / 65536 % 256).toNat, (x / 256 % 256).toNat, (x % 256).toNat]
def headF (f : FrT) : List Nat := [f.k.toNat, f.fr.toNat, f.tt.toNat] ++ be4 f.ep ++ be4 f.sq ++ be4 f.ac
/-- A frame's bytes. -/
def putF (f : FrT) (L : List Nat) : List Nat := headF f ++ L ++ le4 (crc (headF f ++ L))
theorem headF_len (f : FrT) : (headF f).length = 15 := rfl
theorem le4_lt (s : Nat) : ∀ b ∈ le4 s, b < 256 := by
  intro b hb
  simp only [le4, List.mem_cons, List.not_mem_nil, or_false] at hb
  rcases hb with rfl | rfl | rfl | rfl <;> omega
theorem be4_lt (x : Int) : ∀ b ∈ be4 x, b < 256 := by
  intro b hb
  simp only [be4, List.mem_cons, List.not_mem_nil, or_false] at hb
  rcases hb with rfl | rfl | rfl | rfl <;> omega
theorem may_bounds {f : FrT} {n : Nat} (h : mayF f n = 0) : (1 ≤ f.k ∧ f.k ≤ 4) ∧ (0 ≤ f.fr ∧ f.fr ≤ 8) ∧ (0 ≤ f.tt ∧ f.tt ≤ 8) ∧ (0 ≤ f.ep ∧ f.ep ≤ 1073741824) ∧ (0 ≤ f.sq ∧ f.sq ≤ 1073741824) ∧ (0 ≤ f.ac ∧ f.ac ≤ 1073741824) ∧ n ≤ 16384 := by
  unfold mayF at h
  split at h
  · rename_i hh
    obtain ⟨h1, h2, h3, h4, h5, h6, h7, h8⟩ := hh
    split at h
    · cases h
    · exact ⟨⟨h1, h2⟩, of_decide_eq_true h3, of_decide_eq_true h4, of_decide_eq_true h6, of_decide_eq_true h7, of_decide_eq_true h8, by omega⟩
  · cases h
theorem headF_lt {f : FrT} {n : Nat} (h : mayF f n = 0) : ∀ b ∈ headF f, b < 256 := by
  obtain ⟨h1, h2, h3, -⟩ := may_bounds h
  intro b hb
  simp only [headF, List.mem_append] at hb
  rcases hb with ((hb | hb) | hb) | hb
  · simp only [List.mem_cons, List.not_mem_nil, or_false] at hb
    rcases hb with rfl | rfl | rfl <;> omega
  · exact be4_lt _ b hb
  · exact be4_lt _ b hb
  · exact be4_lt _ b hb

theorem exec_makeSlice {P : Program} {ev : Operand → Value} {o : Oper} {w w' : World} (t : TypeId) (l c : Operand) (ho : o.op = .makeSlice t l c) {x y v : Value} (hl : ev l = x) (hc : ev c = y)
    (hrun : (Instr.makeSlice t x y).run P w = .ok v w') : (execOp ev o).run P w = .ok (.value v) w' := by
  unfold execOp
  simp only [ho, hl, hc, Sem.run_bind, Sem.run_pure, Result.andThen_ok, hrun]

theorem f8_all (L : List Nat) : ∀ u ∈ rowsV f8 L, u.oneCell' = true := rowsV_one f8 f8_one L
theorem RdS.of_whole {W : World} {g : Nat} {t : TypeId} {cs : List Value} {n size : Nat} (h : Whole W g t cs) (hl : cs.length = n * size) : RdS W W.heap.size size (some ⟨g, 0, none⟩) n n cs :=
  ⟨hl, fun e => (by cases e), Nat.le_refl _, fun a ha _ => (by obtain rfl := Option.some.inj ha; exact h.lt), fun a ha j u hu => (by
    obtain rfl := Option.some.inj ha
    have hadd : (⟨g, 0, none⟩ : Addr).add j = ⟨g, j, none⟩ := by unfold Addr.add; split <;> simp_all
    rw [hadd]
    exact h.cell hu)⟩

theorem own_lo {w : World} {B B' n : Nat} {e : TypeId} {size : Nat} {v : Value} {xs : List Value} (h : w.ownsRow B e size v n xs) (hB : B' ≤ B) : w.ownsRow B' e size v n xs := by
  refine ⟨h.1, ?_⟩
  rcases h.2 with h | ⟨g, cap, cur, h1, h2, h3⟩
  · exact .inl h
  · exact .inr ⟨g, cap, cur, h1, Nat.le_trans hB h2, h3⟩
/-- What Put tells, as a row of the call's own. -/
def GivesO (w : World) (f : FrT) (L : List Nat) (e : Ending) (w' : World) : Prop :=
  ∃ A c, e = .returned (.tuple #[.slice A (putF f L).length c, .int .i64 0]) ∧ w'.ownsRow w.heap.size 5 1 (.slice A (putF f L).length c) (putF f L).length (rowsV f8 (putF f L)) ∧ Below w.heap.size w w'
/-- What Put tells. -/
def GivesP (w : World) (f : FrT) (L : List Nat) (e : Ending) (w' : World) : Prop :=
  ∃ A c, e = .returned (.tuple #[.slice A (putF f L).length c, .int .i64 0]) ∧ RdS w' w'.heap.size 1 A (putF f L).length c (rowsV f8 (putF f L)) ∧ (∀ a, A = some a → w.heap.size ≤ a.block) ∧ Below w.heap.size w w'

theorem put_not (f : FrT) (A : Option Addr) (n c : Nat) (w : World) (h : mayF f n ≠ 0) :
    Calls Try.prog 11 #[.agg (frCells f A n c).toArray] w fun e w' => e = .returned (.tuple #[.slice none 0 0, .int .i64 (mayF f n)]) ∧ Below w.heap.size w w' := by
  have HM := Lib.hid (fmay_any f A n c)
  obtain ⟨x, gx⟩ : ∃ x, mayF f n = x := ⟨_, rfl⟩
  rw [gx] at HM h ⊢
  have q : (x == 0) = false := beq_eq_false_iff_ne.2 h
  have q' : (x != 0) = true := bne_iff_ne.2 h
  clear gx h
  unfold frCells at HM ⊢
  go_enter Try.func11, Try.ntmps11
  go_wp2_with fail
  refine (HM.out _).mono ?_
  rintro e w2 ⟨rfl, hb⟩
  go_wp2
  exact bodyPost_ret (v := .tuple #[.slice none 0 0, .int .i64 x]) (by simp [results, Try.results11, go_sem]) rfl ⟨rfl, (below1 _ _).trans (hb.mono (by simp))⟩

def PtIn (W2 : World) (f : FrT) (k : Nat) (v : Value) (wr : World) : Prop := Ow W2 W2.heap.size 5 1 v k (rowsV f8 ((headF f).take k)) wr
theorem PtIn.next {W2 wr : World} {f : FrT} {k b : Nat} {v : Value} {x : Int} (hk : (headF f)[k]? = some b) (hx : x = (b : Int)) (h : Ow W2 W2.heap.size 5 1 v (k + 1) (rowsV f8 ((headF f).take k) ++ [.int .u8 x]) wr) : PtIn W2 f (k + 1) v wr := by
  unfold PtIn
  rw [take_snoc_ (headF f) k b hk, rowsV_app]
  subst hx
  exact h

theorem size_int (W : World) : (sizeOf 3).run Try.prog W = .ok 1 W := by
  have h : (Try.prog.info? 3).map (·.size) = some 1 := by kernel_rfl
  cases hq : Try.prog.info? 3 with
  | none => simp [hq] at h
  | some i => simp [hq] at h; simp [sizeOf, typeInfo, hq, h]
theorem idx_is (cs : Array Value) (j : Nat) (hj : j < 3) (x : Int) (hx : cs[j]? = some (.int .i64 x)) (W : World) : (Instr.index 46 (.agg cs) (.int .i64 (j : Int))).run Try.prog W = .ok (.int .i64 x) W := by
  simp only [Instr.index, asIntOf, Sem.run_bind, Sem.run_pure, Result.andThen_ok, run_underlying Try.underlying46]
  rw [if_pos ⟨by omega, by omega⟩]
  simp only [Sem.run_bind, size_int, Result.andThen_ok, part, Int.toNat_natCast, Nat.mul_one]
  have ha : (isAgg 3).run Try.prog W = .ok false W := by
    unfold isAgg
    rw [Sem.run_bind, run_underlying Try.underlying3 W]
    rfl
  simp [ha, hx]

set_option maxRecDepth 100000 in
set_option maxHeartbeats 4000000 in
theorem put_own (f : FrT) (A : Option Addr) (n c : Nat) (L : List Nat) (w : World) (h : mayF f n = 0) (hr : RdS w w.heap.size 1 A n c (rowsV f8 L)) (hb : ∀ b ∈ L, b < 256) :
    Calls Try.prog 11 #[.agg (frCells f A n c).toArray] w (GivesO w f L) := by
  have hl := hr.rlen f8_len (by decide)
  obtain rfl := hl
  obtain ⟨i0, hi, hz0, hz1, hz2⟩ := info_parts_ info_u8
  have hM := fmay_any f A L.length c
  rw [h] at hM
  have HM := Lib.hid hM
  have HLt := Lib.hid (headF_lt h)
  have HBy := Lib.hid hb
  have HR := Lib.hid hr
  obtain ⟨⟨bk1, bk2⟩, ⟨bf1, bf2⟩, ⟨bt1, bt2⟩, ⟨be1, be2⟩, ⟨bs1, bs2⟩, ⟨ba1, ba2⟩, bn⟩ := may_bounds h
  clear hM h hb hr
  have HO : RowKit.Hid (Whole (w.alloc (.cells (frCells f A L.length c).toArray 24)) w.heap.size 24 (frCells f A L.length c)) := Lib.hid (Whole.new_ _ _ _)
  unfold frCells at HM ⊢
  go_enter Try.func11, Try.ntmps11
  go_wp2_with fail
  refine (HM.out _).mono ?_
  rintro e W2 ⟨rfl, hb2⟩
  have HO2 := Lib.hid (HO.out.below hb2)
  have HB2 : RowKit.Hid (Below w.heap.size w W2) := Lib.hid ((below1 _ _).trans (hb2.mono (by simp)))
  have HR2 := Lib.hid (HR.out.up HB2.out HB2.out.size)
  have HG0 : RowKit.Hid (w.heap.size < W2.heap.size) := Lib.hid (by have := hb2.size; simp at this; omega)
  clear hb2 HO
  have c6 := HO2.out.cell (i := 6) (v := .slice A L.length c) rfl
  have hw1 : IntKind.i64.wrap (15 + (L.length : Int)) = 15 + (L.length : Int) := IntWalk.i64_in _ (by omega)
  have hw2 : IntKind.i64.wrap (15 + (L.length : Int) + 4) = 15 + (L.length : Int) + 4 := IntWalk.i64_in _ (by omega)
  go_upto_region 4 with fail
  refine wp_region_lit ?_
  refine wl_read (v := ?_) (some 14) rfl (by rfl) ?_ ?_
  rotate_left
  · go_simp; (try with_reducible rfl)
  simp only [Act.put, List.setIfInBounds_toArray, List.set_cons_zero, List.set_cons_succ]
  refine wl_read (v := ?_) (some 15) rfl (by rfl) ?_ ?_
  rotate_left
  · go_simp; (try with_reducible rfl)
  simp only [Act.put, List.setIfInBounds_toArray, List.set_cons_zero, List.set_cons_succ]
  refine wl_read (v := ?_) (some 16) rfl (by rfl) ?_ ?_
  rotate_left
  · go_simp; (try with_reducible rfl)
  simp only [Act.put, List.setIfInBounds_toArray, List.set_cons_zero, List.set_cons_succ]
  refine wl_read (v := ?_) (some 17) rfl (by rfl) ?_ ?_
  rotate_left
  · go_simp; (try with_reducible rfl)
  simp only [Act.put, List.setIfInBounds_toArray, List.set_cons_zero, List.set_cons_succ]
  refine wl_read (v := ?_) (some 18) rfl (by rfl) ?_ ?_
  rotate_left
  · go_simp; (try with_reducible rfl)
  simp only [Act.put, List.setIfInBounds_toArray, List.set_cons_zero, List.set_cons_succ]
  obtain ⟨W3, hrun, hown, hgr⟩ := run_make_own (P := Try.prog) W2 W2.heap.size 22 5 i0 _ 1 Try.underlying22 hi hz0 hz1 .i64 .i64 (15 + L.length + 4) (by rw [hz2]; omega) (by unfold maxLen; omega) (Nat.le_refl _)
  refine wl_run (some 19) rfl (by rfl) (exec_makeSlice 22 _ _ rfl (by rfl) (by rfl) hrun) ?_
  simp only [Act.put, List.setIfInBounds_toArray, List.set_cons_zero, List.set_cons_succ]
  have HP0 : RowKit.Hid (PtIn W2 f 0 (.slice (some ⟨W2.heap.size, 0, none⟩) 0 (15 + L.length + 4)) W3) := Lib.hid ⟨hown, (Below.refl _ _).grown hgr (Nat.le_refl _) (fun k e => by cases e), Nat.le_refl _, hgr.size⟩
  obtain ⟨g0, gg0⟩ : ∃ x, w.heap.size = x := ⟨_, rfl⟩
  rw [gg0] at HO2 c6 ⊢
  have HG1 : RowKit.Hid (g0 < W2.heap.size) := Lib.hid (gg0 ▸ HG0.out)
  clear hrun hown hgr c6 gg0 hw1 hw2
  have HO3 := Lib.hid (HO2.out.below HP0.out.below)
  have c0 := HO3.out.cell (i := 0) (v := .int .i64 f.k) rfl
  have c1 := HO3.out.cell (i := 1) (v := .int .i64 f.fr) rfl
  have c2 := HO3.out.cell (i := 2) (v := .int .i64 f.tt) rfl
  have c3 := HO3.out.cell (i := 3) (v := .int .i64 f.ep) rfl
  have c4 := HO3.out.cell (i := 4) (v := .int .i64 f.sq) rfl
  have c5 := HO3.out.cell (i := 5) (v := .int .i64 f.ac) rfl
  have uk : IntKind.u8.wrap f.k = f.k := by rw [IntKind.wrap_u8]; omega
  have uf : IntKind.u8.wrap f.fr = f.fr := by rw [IntKind.wrap_u8]; omega
  have ut : IntKind.u8.wrap f.tt = f.tt := by rw [IntKind.wrap_u8]; omega
  go_wp2_with (first
    | (at_builtin
       refine wpList_push2 rfl (.tmp 20) (.tmp 30) _ rfl _ 5 i0 _ 1 1 Try.underlying22 hi hz0 hz1 hz2 rfl (by decide) _ _ _ rfl (by exact Ow.up HP0.out (below1 _ _)) _ (some ⟨W3.heap.size, 0, none⟩) 3 3 ([.int .u8 f.k, .int .u8 f.fr, .int .u8 f.tt]) rfl (by exact RdS.new_ rfl (Nat.lt_succ_self _) rfl rfl) (by simp [Value.oneCell']) (by unfold maxLen; omega) (by omega) ?_
       intro v1 W4 how1 hb1 hgr1
       have HP3 : RowKit.Hid (PtIn W2 f 3 v1 W4) := Lib.hid (by
         have e1 : ((f.k.toNat : Nat) : Int) = f.k := by omega
         have e2 : ((f.fr.toNat : Nat) : Int) = f.fr := by omega
         have e3 : ((f.tt.toNat : Nat) : Int) = f.tt := by omega
         have := how1
         simp only [Nat.zero_add, List.take_zero, rowsV, List.nil_append] at this
         unfold PtIn
         simpa [headF, rowsV, f8, e1, e2, e3] using this)
       have HO4 := Lib.hid (HO2.out.below HP3.out.below)
       clear how1 hb1 hgr1 c0 c1 c2 c3 c4 c5 uk uf ut HO3
       have d3 := HO4.out.cell (i := 3) (v := .int .i64 f.ep) rfl
       have d4 := HO4.out.cell (i := 4) (v := .int .i64 f.sq) rfl
       have d5 := HO4.out.cell (i := 5) (v := .int .i64 f.ac) rfl))
  clear HP0 d3 d4 d5
  go_loopw [5, 39] (fun v i wr => ∃ j : Nat, j ≤ 3 ∧ i = .int .i64 j ∧ RowKit.Hid (PtIn W2 f (3 + 4 * j) v wr)) (fun _ i _ => 3 - (intOf i).toNat)
  case atStart => exact ⟨0, by omega, rfl, HP3⟩
  case round =>
    clear HP3
    obtain ⟨j, hj, rfl, HP⟩ := hrel
    by_cases hlt : j < 3
    · have hcs : j = 0 ∨ j = 1 ∨ j = 2 := by omega
      rcases hcs with h0 | h0 | h0
      · clear hlt hj
        obtain rfl := h0
        rw [show ((0 : Nat) : Int) = 0 from rfl]
        have hix := idx_is #[.int .i64 f.ep, .int .i64 f.sq, .int .i64 f.ac] 0 (by omega) f.ep rfl
        rw [show ((0 : Nat) : Int) = 0 from rfl] at hix
        go_wp2
        clear hix
        go_loopw [5, 42] (fun v i wq => ∃ q : Nat, q ≤ 4 ∧ i = .int .i64 q ∧ RowKit.Hid (PtIn W2 f (3 + q) v wq)) (fun _ i _ => 4 - (intOf i).toNat)
        case atStart => exact ⟨0, by omega, rfl, HP⟩
        case round =>
          clear HP
          obtain ⟨q, hq, rfl, HP⟩ := hrel
          by_cases hlt : q < 4
          · have hcs : q = 0 ∨ q = 1 ∨ q = 2 ∨ q = 3 := by omega
            rcases hcs with h0 | h0 | h0 | h0
            · clear hlt hq
              obtain rfl := h0
              rw [show ((0 : Nat) : Int) = 0 from rfl]
              have uw : IntKind.u8.wrap (f.ep / 16777216) = f.ep / 16777216 % 256 := by rw [IntKind.wrap_u8]
              go_wp2_with (first
                | (at_builtin
                   refine wpList_push2 rfl (.tmp 45) (.tmp 52) _ rfl _ 5 i0 _ 1 1 Try.underlying22 hi hz0 hz1 hz2 rfl (by decide) _ _ _ rfl (by exact Ow.up HP.out (below1 _ _)) _ (some ⟨wr.heap.size, 0, none⟩) 1 1 ([.int .u8 (f.ep / 16777216 % 256)]) rfl (by exact RdS.new_ rfl (Nat.lt_succ_self _) rfl rfl) (by simp [Value.oneCell']) (by unfold maxLen; omega) (by omega) ?_
                   intro v1 W5 how1 hb1 hgr1
                   have HPn : RowKit.Hid (PtIn W2 f (3 + 1) v1 W5) := Lib.hid (PtIn.next (k := 3) (b := (f.ep / 16777216 % 256).toNat) rfl (by omega) how1)
                   clear how1 hb1 hgr1))
              go_roundw
              case rel => exact ⟨1, by omega, by go_num, HPn⟩
              case measure => simp [intOf]
            · clear hlt hq
              obtain rfl := h0
              rw [show ((1 : Nat) : Int) = 1 from rfl]
              have uw : IntKind.u8.wrap (f.ep / 65536) = f.ep / 65536 % 256 := by rw [IntKind.wrap_u8]
              go_wp2_with (first
                | (at_builtin
                   refine wpList_push2 rfl (.tmp 45) (.tmp 52) _ rfl _ 5 i0 _ 1 1 Try.underlying22 hi hz0 hz1 hz2 rfl (by decide) _ _ _ rfl (by exact Ow.up HP.out (below1 _ _)) _ (some ⟨wr.heap.size, 0, none⟩) 1 1 ([.int .u8 (f.ep / 65536 % 256)]) rfl (by exact RdS.new_ rfl (Nat.lt_succ_self _) rfl rfl) (by simp [Value.oneCell']) (by unfold maxLen; omega) (by omega) ?_
                   intro v1 W5 how1 hb1 hgr1
                   have HPn : RowKit.Hid (PtIn W2 f (3 + 2) v1 W5) := Lib.hid (PtIn.next (k := 4) (b := (f.ep / 65536 % 256).toNat) rfl (by omega) how1)
                   clear how1 hb1 hgr1))
              go_roundw
              case rel => exact ⟨2, by omega, by go_num, HPn⟩
              case measure => simp [intOf]
            · clear hlt hq
              obtain rfl := h0
              rw [show ((2 : Nat) : Int) = 2 from rfl]
              have uw : IntKind.u8.wrap (f.ep / 256) = f.ep / 256 % 256 := by rw [IntKind.wrap_u8]
              go_wp2_with (first
                | (at_builtin
                   refine wpList_push2 rfl (.tmp 45) (.tmp 52) _ rfl _ 5 i0 _ 1 1 Try.underlying22 hi hz0 hz1 hz2 rfl (by decide) _ _ _ rfl (by exact Ow.up HP.out (below1 _ _)) _ (some ⟨wr.heap.size, 0, none⟩) 1 1 ([.int .u8 (f.ep / 256 % 256)]) rfl (by exact RdS.new_ rfl (Nat.lt_succ_self _) rfl rfl) (by simp [Value.oneCell']) (by unfold maxLen; omega) (by omega) ?_
                   intro v1 W5 how1 hb1 hgr1
                   have HPn : RowKit.Hid (PtIn W2 f (3 + 3) v1 W5) := Lib.hid (PtIn.next (k := 5) (b := (f.ep / 256 % 256).toNat) rfl (by omega) how1)
                   clear how1 hb1 hgr1))
              go_roundw
              case rel => exact ⟨3, by omega, by go_num, HPn⟩
              case measure => simp [intOf]
            · clear hlt hq
              obtain rfl := h0
              rw [show ((3 : Nat) : Int) = 3 from rfl]
              have uw : IntKind.u8.wrap (f.ep) = f.ep % 256 := by rw [IntKind.wrap_u8]
              go_wp2_with (first
                | (at_builtin
                   refine wpList_push2 rfl (.tmp 45) (.tmp 52) _ rfl _ 5 i0 _ 1 1 Try.underlying22 hi hz0 hz1 hz2 rfl (by decide) _ _ _ rfl (by exact Ow.up HP.out (below1 _ _)) _ (some ⟨wr.heap.size, 0, none⟩) 1 1 ([.int .u8 (f.ep % 256)]) rfl (by exact RdS.new_ rfl (Nat.lt_succ_self _) rfl rfl) (by simp [Value.oneCell']) (by unfold maxLen; omega) (by omega) ?_
                   intro v1 W5 how1 hb1 hgr1
                   have HPn : RowKit.Hid (PtIn W2 f (3 + 4) v1 W5) := Lib.hid (PtIn.next (k := 6) (b := (f.ep % 256).toNat) rfl (by omega) how1)
                   clear how1 hb1 hgr1))
              go_roundw
              case rel => exact ⟨4, by omega, by go_num, HPn⟩
              case measure => simp [intOf]
          · obtain rfl : q = 4 := by omega
            go_wp2
            go_roundw
            case rel => exact ⟨1, by omega, by go_num, HP⟩
            case measure => simp [intOf]
      · clear hlt hj
        obtain rfl := h0
        rw [show ((1 : Nat) : Int) = 1 from rfl]
        have hix := idx_is #[.int .i64 f.ep, .int .i64 f.sq, .int .i64 f.ac] 1 (by omega) f.sq rfl
        rw [show ((1 : Nat) : Int) = 1 from rfl] at hix
        go_wp2
        clear hix
        go_loopw [5, 42] (fun v i wq => ∃ q : Nat, q ≤ 4 ∧ i = .int .i64 q ∧ RowKit.Hid (PtIn W2 f (7 + q) v wq)) (fun _ i _ => 4 - (intOf i).toNat)
        case atStart => exact ⟨0, by omega, rfl, HP⟩
        case round =>
          clear HP
          obtain ⟨q, hq, rfl, HP⟩ := hrel
          by_cases hlt : q < 4
          · have hcs : q = 0 ∨ q = 1 ∨ q = 2 ∨ q = 3 := by omega
            rcases hcs with h0 | h0 | h0 | h0
            · clear hlt hq
              obtain rfl := h0
              rw [show ((0 : Nat) : Int) = 0 from rfl]
              have uw : IntKind.u8.wrap (f.sq / 16777216) = f.sq / 16777216 % 256 := by rw [IntKind.wrap_u8]
              go_wp2_with (first
                | (at_builtin
                   refine wpList_push2 rfl (.tmp 45) (.tmp 52) _ rfl _ 5 i0 _ 1 1 Try.underlying22 hi hz0 hz1 hz2 rfl (by decide) _ _ _ rfl (by exact Ow.up HP.out (below1 _ _)) _ (some ⟨wr.heap.size, 0, none⟩) 1 1 ([.int .u8 (f.sq / 16777216 % 256)]) rfl (by exact RdS.new_ rfl (Nat.lt_succ_self _) rfl rfl) (by simp [Value.oneCell']) (by unfold maxLen; omega) (by omega) ?_
                   intro v1 W5 how1 hb1 hgr1
                   have HPn : RowKit.Hid (PtIn W2 f (7 + 1) v1 W5) := Lib.hid (PtIn.next (k := 7) (b := (f.sq / 16777216 % 256).toNat) rfl (by omega) how1)
                   clear how1 hb1 hgr1))
              go_roundw
              case rel => exact ⟨1, by omega, by go_num, HPn⟩
              case measure => simp [intOf]
            · clear hlt hq
              obtain rfl := h0
              rw [show ((1 : Nat) : Int) = 1 from rfl]
              have uw : IntKind.u8.wrap (f.sq / 65536) = f.sq / 65536 % 256 := by rw [IntKind.wrap_u8]
              go_wp2_with (first
                | (at_builtin
                   refine wpList_push2 rfl (.tmp 45) (.tmp 52) _ rfl _ 5 i0 _ 1 1 Try.underlying22 hi hz0 hz1 hz2 rfl (by decide) _ _ _ rfl (by exact Ow.up HP.out (below1 _ _)) _ (some ⟨wr.heap.size, 0, none⟩) 1 1 ([.int .u8 (f.sq / 65536 % 256)]) rfl (by exact RdS.new_ rfl (Nat.lt_succ_self _) rfl rfl) (by simp [Value.oneCell']) (by unfold maxLen; omega) (by omega) ?_
                   intro v1 W5 how1 hb1 hgr1
                   have HPn : RowKit.Hid (PtIn W2 f (7 + 2) v1 W5) := Lib.hid (PtIn.next (k := 8) (b := (f.sq / 65536 % 256).toNat) rfl (by omega) how1)
                   clear how1 hb1 hgr1))
              go_roundw
              case rel => exact ⟨2, by omega, by go_num, HPn⟩
              case measure => simp [intOf]
            · clear hlt hq
              obtain rfl := h0
              rw [show ((2 : Nat) : Int) = 2 from rfl]
              have uw : IntKind.u8.wrap (f.sq / 256) = f.sq / 256 % 256 := by rw [IntKind.wrap_u8]
              go_wp2_with (first
                | (at_builtin
                   refine wpList_push2 rfl (.tmp 45) (.tmp 52) _ rfl _ 5 i0 _ 1 1 Try.underlying22 hi hz0 hz1 hz2 rfl (by decide) _ _ _ rfl (by exact Ow.up HP.out (below1 _ _)) _ (some ⟨wr.heap.size, 0, none⟩) 1 1 ([.int .u8 (f.sq / 256 % 256)]) rfl (by exact RdS.new_ rfl (Nat.lt_succ_self _) rfl rfl) (by simp [Value.oneCell']) (by unfold maxLen; omega) (by omega) ?_
                   intro v1 W5 how1 hb1 hgr1
                   have HPn : RowKit.Hid (PtIn W2 f (7 + 3) v1 W5) := Lib.hid (PtIn.next (k := 9) (b := (f.sq / 256 % 256).toNat) rfl (by omega) how1)
                   clear how1 hb1 hgr1))
              go_roundw
              case rel => exact ⟨3, by omega, by go_num, HPn⟩
              case measure => simp [intOf]
            · clear hlt hq
              obtain rfl := h0
              rw [show ((3 : Nat) : Int) = 3 from rfl]
              have uw : IntKind.u8.wrap (f.sq) = f.sq % 256 := by rw [IntKind.wrap_u8]
              go_wp2_with (first
                | (at_builtin
                   refine wpList_push2 rfl (.tmp 45) (.tmp 52) _ rfl _ 5 i0 _ 1 1 Try.underlying22 hi hz0 hz1 hz2 rfl (by decide) _ _ _ rfl (by exact Ow.up HP.out (below1 _ _)) _ (some ⟨wr.heap.size, 0, none⟩) 1 1 ([.int .u8 (f.sq % 256)]) rfl (by exact RdS.new_ rfl (Nat.lt_succ_self _) rfl rfl) (by simp [Value.oneCell']) (by unfold maxLen; omega) (by omega) ?_
                   intro v1 W5 how1 hb1 hgr1
                   have HPn : RowKit.Hid (PtIn W2 f (7 + 4) v1 W5) := Lib.hid (PtIn.next (k := 10) (b := (f.sq % 256).toNat) rfl (by omega) how1)
                   clear how1 hb1 hgr1))
              go_roundw
              case rel => exact ⟨4, by omega, by go_num, HPn⟩
              case measure => simp [intOf]
          · obtain rfl : q = 4 := by omega
            go_wp2
            go_roundw
            case rel => exact ⟨2, by omega, by go_num, HP⟩
            case measure => simp [intOf]
      · clear hlt hj
        obtain rfl := h0
        rw [show ((2 : Nat) : Int) = 2 from rfl]
        have hix := idx_is #[.int .i64 f.ep, .int .i64 f.sq, .int .i64 f.ac] 2 (by omega) f.ac rfl
        rw [show ((2 : Nat) : Int) = 2 from rfl] at hix
        go_wp2
        clear hix
        go_loopw [5, 42] (fun v i wq => ∃ q : Nat, q ≤ 4 ∧ i = .int .i64 q ∧ RowKit.Hid (PtIn W2 f (11 + q) v wq)) (fun _ i _ => 4 - (intOf i).toNat)
        case atStart => exact ⟨0, by omega, rfl, HP⟩
        case round =>
          clear HP
          obtain ⟨q, hq, rfl, HP⟩ := hrel
          by_cases hlt : q < 4
          · have hcs : q = 0 ∨ q = 1 ∨ q = 2 ∨ q = 3 := by omega
            rcases hcs with h0 | h0 | h0 | h0
            · clear hlt hq
              obtain rfl := h0
              rw [show ((0 : Nat) : Int) = 0 from rfl]
              have uw : IntKind.u8.wrap (f.ac / 16777216) = f.ac / 16777216 % 256 := by rw [IntKind.wrap_u8]
              go_wp2_with (first
                | (at_builtin
                   refine wpList_push2 rfl (.tmp 45) (.tmp 52) _ rfl _ 5 i0 _ 1 1 Try.underlying22 hi hz0 hz1 hz2 rfl (by decide) _ _ _ rfl (by exact Ow.up HP.out (below1 _ _)) _ (some ⟨wr.heap.size, 0, none⟩) 1 1 ([.int .u8 (f.ac / 16777216 % 256)]) rfl (by exact RdS.new_ rfl (Nat.lt_succ_self _) rfl rfl) (by simp [Value.oneCell']) (by unfold maxLen; omega) (by omega) ?_
                   intro v1 W5 how1 hb1 hgr1
                   have HPn : RowKit.Hid (PtIn W2 f (11 + 1) v1 W5) := Lib.hid (PtIn.next (k := 11) (b := (f.ac / 16777216 % 256).toNat) rfl (by omega) how1)
                   clear how1 hb1 hgr1))
              go_roundw
              case rel => exact ⟨1, by omega, by go_num, HPn⟩
              case measure => simp [intOf]
            · clear hlt hq
              obtain rfl := h0
              rw [show ((1 : Nat) : Int) = 1 from rfl]
              have uw : IntKind.u8.wrap (f.ac / 65536) = f.ac / 65536 % 256 := by rw [IntKind.wrap_u8]
              go_wp2_with (first
                | (at_builtin
                   refine wpList_push2 rfl (.tmp 45) (.tmp 52) _ rfl _ 5 i0 _ 1 1 Try.underlying22 hi hz0 hz1 hz2 rfl (by decide) _ _ _ rfl (by exact Ow.up HP.out (below1 _ _)) _ (some ⟨wr.heap.size, 0, none⟩) 1 1 ([.int .u8 (f.ac / 65536 % 256)]) rfl (by exact RdS.new_ rfl (Nat.lt_succ_self _) rfl rfl) (by simp [Value.oneCell']) (by unfold maxLen; omega) (by omega) ?_
                   intro v1 W5 how1 hb1 hgr1
                   have HPn : RowKit.Hid (PtIn W2 f (11 + 2) v1 W5) := Lib.hid (PtIn.next (k := 12) (b := (f.ac / 65536 % 256).toNat) rfl (by omega) how1)
                   clear how1 hb1 hgr1))
              go_roundw
              case rel => exact ⟨2, by omega, by go_num, HPn⟩
              case measure => simp [intOf]
            · clear hlt hq
              obtain rfl := h0
              rw [show ((2 : Nat) : Int) = 2 from rfl]
              have uw : IntKind.u8.wrap (f.ac / 256) = f.ac / 256 % 256 := by rw [IntKind.wrap_u8]
              go_wp2_with (first
                | (at_builtin
                   refine wpList_push2 rfl (.tmp 45) (.tmp 52) _ rfl _ 5 i0 _ 1 1 Try.underlying22 hi hz0 hz1 hz2 rfl (by decide) _ _ _ rfl (by exact Ow.up HP.out (below1 _ _)) _ (some ⟨wr.heap.size, 0, none⟩) 1 1 ([.int .u8 (f.ac / 256 % 256)]) rfl (by exact RdS.new_ rfl (Nat.lt_succ_self _) rfl rfl) (by simp [Value.oneCell']) (by unfold maxLen; omega) (by omega) ?_
                   intro v1 W5 how1 hb1 hgr1
                   have HPn : RowKit.Hid (PtIn W2 f (11 + 3) v1 W5) := Lib.hid (PtIn.next (k := 13) (b := (f.ac / 256 % 256).toNat) rfl (by omega) how1)
                   clear how1 hb1 hgr1))
              go_roundw
              case rel => exact ⟨3, by omega, by go_num, HPn⟩
              case measure => simp [intOf]
            · clear hlt hq
              obtain rfl := h0
              rw [show ((3 : Nat) : Int) = 3 from rfl]
              have uw : IntKind.u8.wrap (f.ac) = f.ac % 256 := by rw [IntKind.wrap_u8]
              go_wp2_with (first
                | (at_builtin
                   refine wpList_push2 rfl (.tmp 45) (.tmp 52) _ rfl _ 5 i0 _ 1 1 Try.underlying22 hi hz0 hz1 hz2 rfl (by decide) _ _ _ rfl (by exact Ow.up HP.out (below1 _ _)) _ (some ⟨wr.heap.size, 0, none⟩) 1 1 ([.int .u8 (f.ac % 256)]) rfl (by exact RdS.new_ rfl (Nat.lt_succ_self _) rfl rfl) (by simp [Value.oneCell']) (by unfold maxLen; omega) (by omega) ?_
                   intro v1 W5 how1 hb1 hgr1
                   have HPn : RowKit.Hid (PtIn W2 f (11 + 4) v1 W5) := Lib.hid (PtIn.next (k := 14) (b := (f.ac % 256).toNat) rfl (by omega) how1)
                   clear how1 hb1 hgr1))
              go_roundw
              case rel => exact ⟨4, by omega, by go_num, HPn⟩
              case measure => simp [intOf]
          · obtain rfl : q = 4 := by omega
            go_wp2
            go_roundw
            case rel => exact ⟨3, by omega, by go_num, HP⟩
            case measure => simp [intOf]
    · obtain rfl : j = 3 := by omega
      have HPo : RowKit.Hid (Ow W2 W2.heap.size 5 1 _ 15 (rowsV f8 (headF f)) wr) := Lib.hid HP.out
      have HO5 := Lib.hid (HO2.out.below HP.out.below)
      have d6 := HO5.out.cell (i := 6) (v := .slice A L.length c) rfl
      have HS := Lib.hid (fun A1 c1 W hr => sumbytes_any A1 (15 + L.length) c1 (headF f ++ L) W hr (by intro b hb; rcases List.mem_append.1 hb with hb | hb; exact HLt.out b hb; exact HBy.out b hb) (by unfold maxLen; omega))
      go_wp2_with (first
        | (at_builtin
           refine wpList_push2 rfl (.tmp 56) (.tmp 58) _ rfl _ 5 i0 _ 1 1 Try.underlying22 hi hz0 hz1 hz2 rfl (by decide) _ _ _ rfl (by exact Ow.up HPo.out (Below.refl _ _)) _ A L.length c (rowsV f8 L) rfl (HR2.out.up HP.out.below HP.out.below.size) (f8_all L) (by unfold maxLen; omega) (by omega) ?_
           intro v1 W5 how1 hb1 hgr1
           rw [← rowsV_app] at how1
           obtain ⟨A5, c5, rfl, hr5⟩ := how1.rds
           have HP5 := Lib.hid how1
           have HR5 := Lib.hid hr5
           clear how1 hb1 hgr1 hr5 d6)
        | (go_at_call 20
           refine (HS.out _ _ _ HR5.out).mono ?_
           rintro e W6 ⟨g6, rfl, hg6, hw6, hb6⟩
           have HP6 := Lib.hid (HP5.out.up hb6)
           have HR6 : RowKit.Hid (RdS W6 W6.heap.size 1 (some ⟨g6, 0, none⟩) 4 4 (rowsV f8 (le4 (crc (headF f ++ L))))) := Lib.hid (RdS.of_whole hw6 (by rfl))
           clear hg6 hw6 hb6)
        | (at_builtin
           refine wpList_push2 rfl (.tmp 60) (.tmp 62) _ rfl _ 5 i0 _ 1 1 Try.underlying22 hi hz0 hz1 hz2 rfl (by decide) _ _ _ rfl (by exact Ow.up HP6.out (Below.refl _ _)) _ (some ⟨g6, 0, none⟩) 4 4 (rowsV f8 (le4 (crc (headF f ++ L)))) rfl (HR6.out) (f8_all _) (by unfold maxLen; omega) (by omega) ?_
           intro v7 W7 how7 hb7 hgr7
           rw [← rowsV_app] at how7
           obtain ⟨A7, c7, rfl, hr7⟩ := how7.rds
           have HP7 := Lib.hid how7
           have HR7 := Lib.hid hr7
           clear how7 hb7 hgr7 hr7))
      have hlen : (putF f L).length = 15 + L.length + 4 := by simp [putF, headF_len, le4]; omega
      refine bodyPost_ret (v := .tuple #[.slice A7 (15 + L.length + 4) c7, .int .i64 0]) (by simp [results, Try.results11, go_sem]) rfl ?_
      exact ⟨A7, c7, by rw [hlen], by rw [hlen]; exact own_lo HP7.out.own HB2.out.size, HB2.out.trans (HP7.out.below.mono HB2.out.size)⟩
theorem put_yes (f : FrT) (A : Option Addr) (n c : Nat) (L : List Nat) (w : World) (h : mayF f n = 0) (hr : RdS w w.heap.size 1 A n c (rowsV f8 L)) (hb : ∀ b ∈ L, b < 256) :
    Calls Try.prog 11 #[.agg (frCells f A n c).toArray] w (GivesP w f L) := by
  refine (put_own f A n c L w h hr hb).mono ?_
  rintro e w' ⟨A', c', h1, h2, h3⟩
  obtain ⟨A2, c2, e2, h4⟩ := RdS.of_own h2
  injection e2 with a1 a2 a3
  subst a1 a3
  exact ⟨A', c', h1, h4, fun a ha => by subst ha; exact (h2.lt a.block rfl).1, h3⟩
end Go.Proofs.Ytgmjehejaailpaa
