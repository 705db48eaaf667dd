/- 'OpcodeRows' answers true for every row of edits.
   No condition beyond the row's own. -/
import Derived.Test.YtoiflngpjdghbaaOAI
import Derived.Test.YtoiflngpjdghbaaRows
import Derived.Test.YtoiflngpjdghbaaOAB

/- OpcodePuts' walk. -/
namespace Go.Proofs.Ytoiflngpjdghbaa
open Go.RowKit
set_option linter.unusedSimpArgs false
set_option linter.unusedVariables false

theorem oput10_p (A0 : Option Addr) (m0 c0 : Nat) (B : List Nat) (A : Option Addr) (n c : Nat) (L : List OpT) (w : World) (hl : B.length = m0) (h0 : RdS w w.heap.size 1 A0 m0 c0 (rowsV f8 B)) (hB : m0 ≤ 90000) (h : RdS w w.heap.size 20 A n c (rowsV opCells L)) (hn : n ≤ 1000000) :
    Calls Try.prog 10 #[.slice A0 m0 c0, .agg #[.slice A n c]] w fun e w' => ∃ A' c', e = .returned (.tuple #[.slice A' (pE B L).length c', .int .i64 (mayE L)]) ∧ w'.ownsRow w.heap.size 5 1 (.slice A' (pE B L).length c') (pE B L).length (rowsV f8 (pE B L)) ∧ Below w.heap.size w w' := by
  subst hl
  exact oput_any A0 c0 B A n c L w h0 hB h hn
end Go.Proofs.Ytoiflngpjdghbaa

/- OpcodeRows' walk. -/
namespace Go.Proofs.Ytoiflngpjdghbaa
open Go.RowKit
set_option linter.unusedSimpArgs false
set_option linter.unusedVariables false

abbrev ES := Option Addr × Nat × Nat × List OpT
def eSl (e : ES) : List Value := [.slice e.1 e.2.1 e.2.2.1]
theorem eSl_len (e : ES) : (eSl e).length = 1 := rfl
theorem eSl_one (e : ES) : ∀ u ∈ eSl e, u.oneCell' = true := by simp [eSl, Value.oneCell']
theorem info_ed : (Try.prog.info? 25).map (fun i => (i.zero, i.size, i.bytes)) = some (some (.agg #[.slice none 0 0]), 1, 24) := by kernel_rfl
/-- Two rows of one's own of unlike elements lie apart. -/
theorem own_apart {W : World} {lo lo' k k' n n' : Nat} {T T' : TypeId} {v v' : Value} {xs xs' : List Value} (h : W.ownsRow lo T k v n xs) (h' : W.ownsRow lo' T' k' v' n' xs') (hT : T ≠ T') : v.ownBlock = none ∨ v.ownBlock ≠ v'.ownBlock := by
  rcases h.2 with ⟨rfl, -⟩ | ⟨g, cap, cur, rfl, -, hg, -⟩
  · exact .inl rfl
  · refine .inr fun e => ?_
    rcases h'.2 with ⟨rfl, -⟩ | ⟨g', cap', cur', rfl, -, hg', -⟩
    · cases e
    · have e1 : g = g' := Option.some.inj e
      subst e1
      rw [hg] at hg'
      injection Option.some.inj hg' with e2 e3 e4
      exact hT e3
theorem own_grow {W W' : World} {lo lo' k k' n n' : Nat} {T T' : TypeId} {v v' : Value} {xs xs' : List Value} (h : W.ownsRow lo T k v n xs) (h' : W.ownsRow lo' T' k' v' n' xs') (hT : T ≠ T') (hg : W.grownBy W' v'.ownBlock) : W'.ownsRow lo T k v n xs := h.kept hg (own_apart h h' hT)
/-- What stands in the rows: their edits, and their bytes. -/
def bytesE (Ls : List ES) : List Nat := Ls.flatMap (fun e => edB e.2.2.2)
structure RwS (lo : Nat) (W : World) (vi : Value) (Ls : List ES) : Prop where
  row : W.ownsRow lo 25 1 vi Ls.length (rowsV eSl Ls)
  each : ∀ e ∈ Ls, W.ownsRow lo 48 20 (.slice e.1 e.2.1 e.2.2.1) e.2.1 (rowsV opCells e.2.2.2)
  may : ∀ e ∈ Ls, mayE e.2.2.2 = 0 ∧ e.2.1 ≤ 10
theorem RwS.up {lo : Nat} {W W' : World} {vi : Value} {Ls : List ES} (h : RwS lo W vi Ls) (hb : Below W.heap.size W W') : RwS lo W' vi Ls := ⟨own_up h.row hb, fun e he => own_up (h.each e he) hb, h.may⟩
theorem bytesE_len {Ls : List ES} (h : ∀ e ∈ Ls, mayE e.2.2.2 = 0 ∧ e.2.1 ≤ 10) : (bytesE Ls).length ≤ 139 * Ls.length := by
  induction Ls with
  | nil => simp [bytesE]
  | cons e L ih =>
    have h1 := edB_len (h e (by simp)).1
    have h2 := ih (fun x hx => h x (by simp [hx]))
    unfold bytesE at h2 ⊢
    rw [List.flatMap_cons, List.length_append, List.length_cons]
    omega
theorem bytesE_lt (Ls : List ES) : ∀ b ∈ bytesE Ls, b < 256 := by
  intro b hb
  obtain ⟨e, -, h2⟩ := List.mem_flatMap.1 hb
  exact edB_lt _ b h2
theorem bytesE_snoc (Ls : List ES) (e : ES) : bytesE (Ls ++ [e]) = bytesE Ls ++ edB e.2.2.2 := by simp [bytesE, List.flatMap_append]
theorem bytesE_drop {Ls : List ES} {i : Nat} {e : ES} (h : Ls[i]? = some e) : bytesE (Ls.drop i) = edB e.2.2.2 ++ bytesE (Ls.drop (i + 1)) := by
  obtain ⟨hl, he⟩ := List.getElem?_eq_some_iff.1 h
  rw [List.drop_eq_getElem_cons hl, he]
  rfl
/-- That the one's bytes begin the other's. -/
theorem begins_eq {L M : List OpT} (hL : mayE L = 0) (hM : mayE M = 0) (h : (edB L).length ≤ (edB M).length) : decide ((edB M).take (edB L).length = edB L) = decide (L = M) := by
  refine decide_eq_decide.2 ⟨fun q => ?_, fun q => by rw [q, List.take_length]⟩
  have h1 : isE (edB M) M [] := ⟨hM, by rw [List.append_nil]⟩
  have h3 : edB L ++ (edB M).drop (edB L).length = edB M := by
    have := List.take_append_drop (edB L).length (edB M)
    rw [q] at this
    exact this
  have h2 : isE (edB M) L ((edB M).drop (edB L).length) := ⟨hL, h3.symm⟩
  exact (isE_rd h2).1.symm.trans (isE_rd h1).1
set_option maxRecDepth 100000 in
set_option maxHeartbeats 16000000 in
theorem law_rows (Al : Option Addr) (nl cl : Nat) (Es : List ES) (w : World) (h : RdS w w.heap.size 1 Al nl cl (rowsV eSl Es)) (hn : nl ≤ maxLen) (he : ∀ e ∈ Es, RdS w w.heap.size 20 e.1 e.2.1 e.2.2.1 (rowsV opCells e.2.2.2) ∧ e.2.1 ≤ maxLen) :
    Calls Try.prog 6 #[.slice Al nl cl] w fun e w' => e = .returned (.bool true) ∧ Below w.heap.size w w' := by
  obtain ⟨i0, hi, hz0, hz1, hz2⟩ := info_parts_ info_ed
  have HR := Lib.hid h
  have HE := Lib.hid he
  have Hl : RowKit.Hid (Es.length = nl) := Lib.hid (h.rlen eSl_len (by decide))
  clear h he
  go_enter Try.func6, Try.ntmps6
  go_upto_region 2 with (first
    | (go_at_call 9
       refine (shown10_any _).mono ?_
       rintro e w1 ⟨rfl, hb⟩
       have HB1 := Lib.hid hb
       have HR1 := Lib.hid (HR.out.bl hb)
       have HE1 : RowKit.Hid (∀ e ∈ Es, RdS w1 w1.heap.size 20 e.1 e.2.1 e.2.2.1 (rowsV opCells e.2.2.2) ∧ e.2.1 ≤ maxLen) := Lib.hid (fun e q => ⟨(HE.out e q).1.bl hb, (HE.out e q).2⟩)
       clear hb HR HE))
  go_upto_region 4 with fail
  have HB2 : RowKit.Hid (Below w1.heap.size w1 ((w1.alloc (.cells #[] 5)).alloc (.cells #[] 25))) := Lib.hid (below2 w1 _ _)
  have HO2 : RowKit.Hid (((w1.alloc (.cells #[] 5)).alloc (.cells #[] 25)).ownsRow w1.heap.size 5 1 (.slice (some ⟨w1.heap.size, 0, none⟩) 0 0) 0 (rowsV f8 (bytesE []))) := Lib.hid (own_up (own_mk (junk := []) (show Whole (w1.alloc (.cells #[] 5)) w1.heap.size 5 ([] ++ []) from Whole.new_ _ _ []) (Nat.le_refl _) rfl (Nat.le_refl _) (Nat.zero_le _) rfl) (below1 _ _))
  have HI2 : RowKit.Hid (RwS w1.heap.size ((w1.alloc (.cells #[] 5)).alloc (.cells #[] 25)) (.slice (some ⟨w1.heap.size + 1, 0, none⟩) 0 0) []) := Lib.hid ⟨own_mk (junk := []) (show Whole ((w1.alloc (.cells #[] 5)).alloc (.cells #[] 25)) (w1.heap.size + 1) 25 ([] ++ []) from Whole.new2 (by simp)) (by omega) rfl (Nat.le_refl _) (Nat.zero_le _) rfl, fun e q => (by cases q), fun e q => (by cases q)⟩
  obtain ⟨w2, gw2⟩ : ∃ z, (w1.alloc (.cells #[] 5)).alloc (.cells #[] 25) = z := ⟨_, rfl⟩
  rw [gw2] at HB2 HO2 HI2 ⊢
  obtain ⟨b5, gb5⟩ : ∃ z, w1.heap.size + 1 = z := ⟨_, rfl⟩
  rw [gb5] at HI2 ⊢
  clear gw2 gb5
  obtain ⟨lo, glo⟩ : ∃ z, w1.heap.size = z := ⟨_, rfl⟩
  rw [glo] at HO2 HI2
  have Glo := Lib.hid glo
  rw [glo]
  clear glo
  go_upto_region 5 with fail
  go_loopw [4, 5, 6] (fun vb vi i wr => ∃ (k : Nat) (Ab : Option Addr) (nb cb : Nat) (Ai : Option Addr) (m ci : Nat) (Ls : List ES), k ≤ 8 ∧ k ≤ nl ∧ m ≤ k ∧ Ls.length = m ∧ i = .int .i64 (k : Int) ∧ vb = .slice Ab nb cb ∧ vi = .slice Ai m ci ∧ nb = (bytesE Ls).length ∧
      RowKit.Hid (RwS lo wr (.slice Ai m ci) Ls ∧ wr.ownsRow lo 5 1 (.slice Ab nb cb) nb (rowsV f8 (bytesE Ls)) ∧ Below w1.heap.size w1 wr)) (fun _ _ i _ => 8 - (intOf i).toNat)
  case atStart => exact ⟨0, _, 0, 0, _, 0, 0, [], Nat.zero_le _, Nat.zero_le _, Nat.le_refl _, rfl, rfl, rfl, rfl, rfl, Lib.hid ⟨HI2.out, HO2.out, HB2.out⟩⟩
  case round =>
    clear HO2 HI2 HB2
    obtain ⟨k, Ab, nb, cb, Ai, m, ci, Ls, hk8, hkn, hmk, hLl, rfl, rfl, rfl, hnb, hin⟩ := hrel
    by_cases hlt : k < nl ∧ k < 8
    · obtain ⟨hl1, hl2⟩ := hlt
      have hi1 : (k : Int) < (nl : Int) := by omega
      have hi2 : (k : Int) < 8 := by omega
      have hk0 : Es[k]? = some (Es[k]'(by have := Hl.out; omega)) := List.getElem?_eq_getElem _
      obtain ⟨e0, ge0⟩ : ∃ e, Es[k]'(by have := Hl.out; omega) = e := ⟨_, rfl⟩
      rw [ge0] at hk0
      have hHb := hin.out.2.2
      have HRk := Lib.hid (HR1.out.bl hHb)
      obtain ⟨bb, off, rfl, hbB, hpl⟩ := HRk.out.place eSl_len (by decide) (by omega)
      have q0 := hpl k e0 hk0 0 _ rfl
      simp only [Addr.add_lit, Nat.add_zero, Nat.mul_one, Nat.zero_add] at q0
      have HEk := Lib.hid ((HE1.out e0 (List.mem_of_getElem? hk0)).1.bl hHb)
      have HEn := Lib.hid (HE1.out e0 (List.mem_of_getElem? hk0)).2
      have hq0b : bb < wr.heap.size := hbB
      have Hq0 := Lib.hid q0
      clear ge0 hk0 hpl hbB hHb
      obtain ⟨Ae, ne, ce, Le⟩ := e0
      simp only at HEk HEn
      have HF := Lib.hid (fun W h => few10_any Ae ne ce Le W h HEn.out)
      have hfl := fewE_len Le
      obtain ⟨E, gE⟩ : ∃ z, fewE Le = z := ⟨_, rfl⟩
      rw [gE] at HF hfl
      obtain ⟨mE, gm⟩ : ∃ z, E.length = z := ⟨_, rfl⟩
      rw [gm] at HF hfl
      have hbl : nb ≤ 139 * 8 := by
        rw [hnb]
        have := bytesE_len hin.out.1.may
        omega
      have Hnb := Lib.hid hnb
      have HLl := Lib.hid hLl
      have HI := Lib.hid hin.out.1
      have HO := Lib.hid hin.out.2.1
      have HB := Lib.hid hin.out.2.2
      clear gE gm hin hnb hLl
      go_upto_region 8 with (first
        | (go_at_call 11
           refine (HF.out _ HEk.out).mono ?_
           rintro e w3 ⟨A3, c3, rfl, ho, hb⟩
           have HI3 := Lib.hid (HI.out.up hb)
           have HO3 := Lib.hid (own_up HO.out hb)
           have HB3 := Lib.hid (bel_bl HB.out hb)
           have HEk3 := Lib.hid (HEk.out.bl hb)
           have HF3 := Lib.hid (own_rds ho)
           have Hq3 : RowKit.Hid (w3.cell? ⟨bb, off + k, none⟩ = some (.slice Ae ne ce)) := Lib.hid ((hb.cell (p := ⟨bb, off + k, none⟩) hq0b).trans Hq0.out)
           clear ho hb q0)
        | (go_at_call 10
           refine (oput10_p Ab nb cb (bytesE Ls) A3 mE c3 E _ Hnb.out.symm (own_rds HO3.out) (by omega) HF3.out (by omega)).mono ?_
           rintro e w4 ⟨A4, c4, rfl, ho, hb⟩
           have HI4 := Lib.hid (HI3.out.up hb)
           have HO4 := Lib.hid (own_up HO3.out hb)
           have HB4 := Lib.hid (bel_bl HB3.out hb)
           have HEk4 := Lib.hid (HEk3.out.bl hb)
           have HP4 := Lib.hid (own_lo8 ho (show lo ≤ w3.heap.size by have := HB3.out.size; have := Glo.out; omega))
           have q4 : w4.cell? ⟨bb, off + k, none⟩ = some (.slice Ae ne ce) := (hb.cell (p := ⟨bb, off + k, none⟩) (by have := hq0b; have := World.block_lt_of_cell? w3 _ Hq3.out; exact this)).trans Hq3.out
           have Hq4 := Lib.hid q4
           clear ho hb q4))
      clear HEk HI HO HB HI3 HO3 HB3 HEk3 HF3 Hq0 Hq3 hq0b
      by_cases hm : mayE E = 0
      · have hp : pE (bytesE Ls) E = bytesE Ls ++ edB E := by unfold pE; rw [if_pos hm]
        rw [hp] at HP4 ⊢
        rw [hm]
        obtain ⟨nx, gnx⟩ : ∃ z, (bytesE Ls ++ edB E).length = z := ⟨_, rfl⟩
        rw [gnx] at HP4 ⊢
        have Gnx := Lib.hid gnx
        have Hm := Lib.hid hm
        clear hp hm gnx
        have q4 := Hq4.out
        go_upto_region 6 with (first
          | (go_at_call 11
             refine (HF.out _ HEk4.out).mono ?_
             rintro e w5 ⟨A5, c5, rfl, ho, hb⟩
             have HI5 := Lib.hid ((HI4.out.up hb).up (below1 w5 (.cells #[.slice A5 mE c5] 25)))
             have HB5 := Lib.hid ((bel_bl HB4.out hb).alloc (bel_bl HB4.out hb).size (.cells #[.slice A5 mE c5] 25))
             have HP5 := Lib.hid (own_up (own_up HP4.out hb) (below1 w5 (.cells #[.slice A5 mE c5] 25)))
             have HN5 := Lib.hid (own_lo8 (own_up ho (below1 w5 (.cells #[.slice A5 mE c5] 25))) (show lo ≤ w4.heap.size by have := HB4.out.size; have := Glo.out; omega))
             have hlo5 : lo ≤ (w5.alloc (.cells #[.slice A5 mE c5] 25)).heap.size := by have := HB5.out.size; have := Glo.out; omega
             have HS5 : RowKit.Hid (RdS (w5.alloc (.cells #[.slice A5 mE c5] 25)) (w5.alloc (.cells #[.slice A5 mE c5] 25)).heap.size 1 (some ⟨w5.heap.size, 0, none⟩) 1 1 (rowsV eSl [((A5, mE, c5, E) : ES)])) := Lib.hid (RdS.of_whole8 (Whole.new_ _ _ _) rfl)
             have HW5 : RowKit.Hid (Ow { (w5.alloc (.cells #[.slice A5 mE c5] 25)) with heap := #[] } lo 25 1 (.slice Ai m ci) m (rowsV eSl Ls) (w5.alloc (.cells #[.slice A5 mE c5] 25))) := Lib.hid (by have h9 := ow_of HI5.out.row hlo5; rw [HLl.out] at h9; exact h9)
             clear ho hb q4)
          | (at_builtin
             refine wpList_push2 rfl (.tmp 48) (.tmp 54) _ rfl _ 25 i0 _ 1 24 Try.underlying39 hi hz0 hz1 hz2 rfl (by decide) _ _ _ rfl HW5.out _ _ _ _ _ rfl HS5.out (rowsV_one eSl eSl_one _) (by unfold maxLen; omega) (by omega) ?_
             intro v6 w6 how6 hb6 hgr6
             rw [← rowsV_app] at how6
             obtain ⟨A6, c6, rfl, -⟩ := how6.rds
             have HI6 : RowKit.Hid (RwS lo w6 (.slice A6 (m + 1) c6) (Ls ++ [((A5, mE, c5, E) : ES)])) := Lib.hid (by
               refine ⟨by rw [List.length_append, HLl.out]; exact how6.own, fun e q => ?_, fun e q => ?_⟩
               · rcases List.mem_append.1 q with q | q
                 · exact own_grow (HI5.out.each e q) HI5.out.row (by decide) hgr6
                 · rw [List.mem_singleton.1 q]
                   exact own_grow HN5.out HI5.out.row (by decide) hgr6
               · rcases List.mem_append.1 q with q | q
                 · exact HI5.out.may e q
                 · rw [List.mem_singleton.1 q]
                   exact ⟨Hm.out, by omega⟩)
             have HP6 := Lib.hid (own_grow HP5.out HI5.out.row (by decide) hgr6)
             have HB6 : RowKit.Hid (Below w1.heap.size w1 w6) := Lib.hid (HB5.out.grown hgr6 HB5.out.size (fun i e => by have h1 := (HI5.out.row.lt i e).1; have := Glo.out; omega))
             clear how6 hb6 hgr6 hlo5))
        go_wp2
        go_roundw
        case rel => exact ⟨k + 1, A4, nx, c4, A6, m + 1, c6, Ls ++ [(A5, mE, c5, E)], by omega, by omega, by omega, by rw [List.length_append, HLl.out]; rfl, by go_num, rfl, rfl, by rw [bytesE_snoc, Gnx.out], Lib.hid ⟨HI6.out, by rw [bytesE_snoc]; exact HP6.out, HB6.out⟩⟩
        case measure => simp [intOf]; omega
      · obtain ⟨x, gx⟩ : ∃ z, mayE E = z := ⟨_, rfl⟩
        rw [gx] at hm
        rw [gx]
        have q1 : (x == 0) = false := beq_eq_false_iff_ne.2 hm
        clear hm gx
        go_wp2
        go_roundw
        case rel => exact ⟨k + 1, Ab, nb, cb, Ai, m, ci, Ls, by omega, by omega, by omega, HLl.out, by go_num, rfl, rfl, Hnb.out, Lib.hid ⟨HI4.out, HO4.out, HB4.out⟩⟩
        case measure => simp [intOf]; omega
    · have HI := Lib.hid hin.out.1
      have HO := Lib.hid hin.out.2.1
      have HB : RowKit.Hid (Below w.heap.size w wr) := Lib.hid (bel_bl HB1.out (show Below w1.heap.size w1 wr from hin.out.2.2))
      have hm8 : m ≤ 8 := by omega
      have HLl := Lib.hid hLl
      have Hnb := Lib.hid hnb
      have hbl : nb ≤ 139 * 8 := by
        rw [hnb]
        have := bytesE_len hin.out.1.may
        omega
      clear hin hLl hnb
      go_upto_region 5 with fail
      go_cut [32] (fun v z => v = .bool false ∧ z = wr)
      case first =>
        by_cases hl1 : k < nl
        · have hi1 : (k : Int) < (nl : Int) := by omega
          have hi2 : ¬ (k : Int) < 8 := by omega
          clear hlt
          go_wp2
          go_meet
          exact ⟨rfl, rfl⟩
        · have hi1 : ¬ (k : Int) < (nl : Int) := by omega
          clear hlt
          go_wp2
          go_meet
          exact ⟨rfl, rfl⟩
      case rest =>
      obtain ⟨rfl, hz⟩ := hcut
      replace hz := hz.symm
      subst hz
      clear hlt
      go_upto_region 12 with fail
      obtain ⟨wA, gwA⟩ : ∃ z, wr = z := ⟨_, rfl⟩
      rw [gwA] at HI HO HB ⊢
      clear gwA
      go_loopw [9] (fun i wx => ∃ (k : Nat), k ≤ m ∧ i = .int .i64 (k : Int) ∧ RowKit.Hid (Below wA.heap.size wA wx)) (fun i _ => m - (intOf i).toNat)
      case atStart => exact ⟨0, Nat.zero_le _, rfl, Lib.hid (Below.refl _ _)⟩
      case round =>
        obtain ⟨k, hk, rfl, hin⟩ := hrel
        by_cases hlt : k < m
        · have hi1 : (k : Int) < (m : Int) := by omega
          obtain ⟨wo, gwo⟩ : ∃ z, wr = z := ⟨_, rfl⟩
          rw [gwo] at hin ⊢
          clear gwo
          go_upto_region 15 with fail
          clear hi1
          go_loopw [10] (fun i wx => ∃ (j : Nat), j ≤ k ∧ i = .int .i64 (j : Int) ∧ RowKit.Hid (Below wA.heap.size wA wx)) (fun i _ => k - (intOf i).toNat)
          case atStart => exact ⟨0, Nat.zero_le _, rfl, hin⟩
          case round =>
            obtain ⟨j, hj, rfl, hin2⟩ := hrel
            by_cases hlt2 : j < k
            · have hi2 : (j : Int) < (k : Int) := by omega
              have hi3 : (j : Int) < (m : Int) := by omega
              have hi4 : (k : Int) < (m : Int) := by omega
              have HIr := Lib.hid (HI.out.up hin2.out)
              have hxk_ : Ls[k]? = some (Ls[k]'(by have := HLl.out; omega)) := List.getElem?_eq_getElem _
              obtain ⟨⟨Ake, nke, cke, Ek⟩, gke⟩ : ∃ e, Ls[k]'(by have := HLl.out; omega) = e := ⟨_, rfl⟩
              rw [gke] at hxk_
              have hmemk := List.mem_of_getElem? hxk_
              have HMk := Lib.hid (HIr.out.may _ hmemk).1
              have hnke := (HIr.out.may _ hmemk).2
              have HEk := Lib.hid (own_rds (HIr.out.each _ hmemk))
              simp only at HMk hnke HEk
              clear gke hmemk
              have hxj_ : Ls[j]? = some (Ls[j]'(by have := HLl.out; omega)) := List.getElem?_eq_getElem _
              obtain ⟨⟨Aje, nje, cje, Ej⟩, gje⟩ : ∃ e, Ls[j]'(by have := HLl.out; omega) = e := ⟨_, rfl⟩
              rw [gje] at hxj_
              have hmemj := List.mem_of_getElem? hxj_
              have HMj := Lib.hid (HIr.out.may _ hmemj).1
              have hnje := (HIr.out.may _ hmemj).2
              have HEj := Lib.hid (own_rds (HIr.out.each _ hmemj))
              simp only at HMj hnje HEj
              clear gje hmemj
              have hrow0 := HIr.out.row
              rw [HLl.out] at hrow0
              have hrow := own_rds hrow0
              obtain ⟨bi, offi, rfl, hbi, hpl⟩ := hrow.place eSl_len (by decide) (by omega)
              have qk := hpl k _ hxk_ 0 _ rfl
              have qj := hpl j _ hxj_ 0 _ rfl
              simp only [Addr.add_lit, Nat.add_zero, Nat.mul_one, Nat.zero_add] at qk qj
              have Hqk := Lib.hid qk
              have Hqj := Lib.hid qj
              have HB7 := Lib.hid hin2.out
              have hltk := edB_lt Ek
              have hltj := edB_lt Ej
              have hlk := edB_len HMk.out
              have hlj := edB_len HMj.out
              have hbeg := fun q => begins_eq HMk.out HMj.out q
              have HPk := Lib.hid (fun (W : World) (h : RdS W W.heap.size 20 Ake nke cke (rowsV opCells Ek)) => oput10_p none 0 0 [] Ake nke cke Ek W rfl (rds_nil _ _ _) (by omega) h (by omega))
              have HPj := Lib.hid (fun (W : World) (h : RdS W W.heap.size 20 Aje nje cje (rowsV opCells Ej)) => oput10_p none 0 0 [] Aje nje cje Ej W rfl (rds_nil _ _ _) (by omega) h (by omega))
              rw [show pE [] Ek = edB Ek from by unfold pE; rw [if_pos HMk.out, List.nil_append], HMk.out] at HPk
              rw [show pE [] Ej = edB Ej from by unfold pE; rw [if_pos HMj.out, List.nil_append], HMj.out] at HPj
              obtain ⟨sm, gsm⟩ : ∃ z, decide (Ek = Ej) = z := ⟨_, rfl⟩
              rw [gsm] at hbeg
              obtain ⟨X, gX⟩ : ∃ z, edB Ek = z := ⟨_, rfl⟩
              obtain ⟨Y, gY⟩ : ∃ z, edB Ej = z := ⟨_, rfl⟩
              rw [gX, gY] at hbeg
              rw [gX] at HPk hltk hlk
              rw [gY] at HPj hltj hlj
              obtain ⟨nx, gnx⟩ : ∃ z, X.length = z := ⟨_, rfl⟩
              obtain ⟨ny, gny⟩ : ∃ z, Y.length = z := ⟨_, rfl⟩
              have hte0 : nx ≤ ny → ((txt (Y.take nx)).toList == (txt X).toList) = sm := fun q => by
                rw [txt_eq (fun b hb => hltj b (List.mem_of_mem_take hb)) hltk, ← gnx]
                exact hbeg (by omega)
              have hno0 : ¬ nx ≤ ny → sm = false := fun q => by
                rw [← gsm]
                refine decide_eq_false fun e => q ?_
                rw [← gnx, ← gny, ← gX, ← gY, e]
                exact Nat.le_refl _
              rw [gnx] at HPk hlk
              rw [gny] at HPj hlj
              have Hte := Lib.hid hte0
              have Hno := Lib.hid hno0
              have Gsm := Lib.hid gsm
              have Gnx := Lib.hid gnx
              have Gny := Lib.hid gny
              have hbiw : bi < wr.heap.size := hbi
              have Hbi := Lib.hid hbiw
              clear hbeg hte0 hno0 gsm gX gY gnx gny hltk hltj hpl hxk_ hxj_ hrow hrow0 hbi hbiw HIr hin2 qj
              go_upto_region 18 with (first
                | (go_at_call 10
                   refine (HPk.out _ HEk.out).mono ?_
                   rintro e w8 ⟨A8, c8, rfl, ho, hb⟩
                   have HB8 := Lib.hid (bel_bl HB7.out hb)
                   have HEk8 := Lib.hid (HEk.out.bl hb)
                   have HEj8 := Lib.hid (HEj.out.bl hb)
                   have HX8 := Lib.hid (own_rds ho)
                   have Hqk8 : RowKit.Hid (w8.cell? ⟨bi, offi + k, none⟩ = some (.slice Ake nke cke)) := Lib.hid ((hb.cell (p := ⟨bi, offi + k, none⟩) Hbi.out).trans Hqk.out)
                   have qj : w8.cell? ⟨bi, offi + j, none⟩ = some (.slice Aje nje cje) := (hb.cell (p := ⟨bi, offi + j, none⟩) Hbi.out).trans Hqj.out
                   have Hqj8 := Lib.hid qj
                   clear ho hb qk))
              clear HB7 HEk HEj Hqk Hqj Hbi HPk
              go_upto_region 19 with (first
                | (go_at_call 10
                   refine (HPj.out _ HEj8.out).mono ?_
                   rintro e w9 ⟨A9, c9, rfl, ho, hb⟩
                   have HB9 := Lib.hid (bel_bl HB8.out hb)
                   have HEk9 := Lib.hid (HEk8.out.bl hb)
                   have HEj9 := Lib.hid (HEj8.out.bl hb)
                   have HX9 := Lib.hid (HX8.out.bl hb)
                   have HY9 := Lib.hid (own_rds ho)
                   have Hqk9 : RowKit.Hid (w9.cell? ⟨bi, offi + k, none⟩ = some (.slice Ake nke cke)) := Lib.hid ((hb.cell (p := ⟨bi, offi + k, none⟩) (World.block_lt_of_cell? w8 _ Hqk8.out)).trans Hqk8.out)
                   have Hqj9 : RowKit.Hid (w9.cell? ⟨bi, offi + j, none⟩ = some (.slice Aje nje cje)) := Lib.hid ((hb.cell (p := ⟨bi, offi + j, none⟩) (World.block_lt_of_cell? w8 _ Hqj8.out)).trans Hqj8.out)
                   clear ho hb qj))
              clear HB8 HEk8 HEj8 Hqk8 Hqj8 HPj HX8
              go_cut [15] (fun v z => v = .bool sm ∧ Ext w9 z)
              case first =>
                have HD := below_drewN w9.heap.size w9 1
                by_cases hxy : nx ≤ ny
                · have ht1 : (nx : Int) ≤ (ny : Int) := by omega
                  have hkc : nx ≤ c9 := Nat.le_trans hxy HY9.out.le
                  have hyt := HY9.out.fewer8 nx
                  rw [show (Y.take nx).length = nx from by rw [List.length_take, Gny.out]; omega] at hyt
                  have hcv1 : ∀ w', Kept Nil_ w9.drew w' → (convert 22 9 (.slice A9 nx c9)).run Try.prog w' = .ok (.string (txt (Y.take nx))) w' := fun w' hh => conv_txt ((hyt.bl HD).kept_ne hh (fun _ _ _ e => e))
                  have hcv2 : ∀ w', Kept Nil_ w9.drew w' → (convert 22 9 (.slice A8 nx c8)).run Try.prog w' = .ok (.string (txt X)) w' := fun w' hh => conv_txt ((HX9.out.bl HD).kept_ne hh (fun _ _ _ e => e))
                  have hte := Hte.out hxy
                  clear hyt
                  refine wp_region_reg (Nil_) (by kernel_rfl) ?_
                  apply wpR_next 0 (some 83)
                  · simp only [List.getElem?_toArray, List.getElem?_cons_succ, List.getElem?_cons_zero]; exact rfl
                  · rfl
                  · kernel_rfl
                  · kernel_rfl
                  · kernel_rfl
                  · exact fun _ _ _ _ h => h
                  apply Exists.intro
                  apply And.intro
                  · apply yr_run; rfl; intro w' hw'; go_simp; (try with_reducible rfl)
                  simp only [Act.put, List.setIfInBounds_toArray, List.set_cons_zero, List.set_cons_succ]
                  apply wpR_next 1 (some 84)
                  · simp only [List.getElem?_toArray, List.getElem?_cons_succ, List.getElem?_cons_zero]; exact rfl
                  · rfl
                  · kernel_rfl
                  · kernel_rfl
                  · kernel_rfl
                  · exact fun _ _ _ _ h => h
                  apply Exists.intro
                  apply And.intro
                  · apply yr_run; rfl; intro w' hw'; go_simp; (try with_reducible rfl)
                  simp only [Act.put, List.setIfInBounds_toArray, List.set_cons_zero, List.set_cons_succ]
                  apply wpR_next 2 (some 85)
                  · simp only [List.getElem?_toArray, List.getElem?_cons_succ, List.getElem?_cons_zero]; exact rfl
                  · rfl
                  · kernel_rfl
                  · kernel_rfl
                  · kernel_rfl
                  · exact fun _ _ _ _ h => h
                  apply Exists.intro
                  apply And.intro
                  · apply yr_run; rfl; intro w' hw'; go_simp; (try with_reducible rfl)
                  simp only [Act.put, List.setIfInBounds_toArray, List.set_cons_zero, List.set_cons_succ]
                  apply wpR_next 3 (some 86)
                  · simp only [List.getElem?_toArray, List.getElem?_cons_succ, List.getElem?_cons_zero]; exact rfl
                  · rfl
                  · kernel_rfl
                  · kernel_rfl
                  · kernel_rfl
                  · exact fun _ _ _ _ h => h
                  apply Exists.intro
                  apply And.intro
                  · apply yr_run; rfl; intro w' hw'; go_simp; (try with_reducible rfl)
                  simp only [Act.put, List.setIfInBounds_toArray, List.set_cons_zero, List.set_cons_succ]
                  apply wpR_next 4 (some 87)
                  · simp only [List.getElem?_toArray, List.getElem?_cons_succ, List.getElem?_cons_zero]; exact rfl
                  · rfl
                  · kernel_rfl
                  · kernel_rfl
                  · kernel_rfl
                  · exact fun _ _ _ _ h => h
                  apply Exists.intro
                  apply And.intro
                  · apply yr_run; rfl; intro w' hw'; go_simp; (try with_reducible rfl)
                  simp only [Act.put, List.setIfInBounds_toArray, List.set_cons_zero, List.set_cons_succ]
                  apply wpR_next 5 (some 88)
                  · simp only [List.getElem?_toArray, List.getElem?_cons_succ, List.getElem?_cons_zero]; exact rfl
                  · rfl
                  · kernel_rfl
                  · kernel_rfl
                  · kernel_rfl
                  · exact fun _ _ _ _ h => h
                  apply Exists.intro
                  apply And.intro
                  · apply yr_run; rfl; intro w' hw'; go_simp; (try with_reducible rfl)
                  simp only [Act.put, List.setIfInBounds_toArray, List.set_cons_zero, List.set_cons_succ]
                  apply wpR_next 6 (some 89)
                  · simp only [List.getElem?_toArray, List.getElem?_cons_succ, List.getElem?_cons_zero]; exact rfl
                  · rfl
                  · kernel_rfl
                  · kernel_rfl
                  · kernel_rfl
                  · exact fun _ _ _ _ h => h
                  apply Exists.intro
                  apply And.intro
                  · apply yr_run; rfl; intro w' hw'; go_simp; (try with_reducible rfl)
                  simp only [Act.put, List.setIfInBounds_toArray, List.set_cons_zero, List.set_cons_succ]
                  apply wpR_next 7 (some 90)
                  · simp only [List.getElem?_toArray, List.getElem?_cons_succ, List.getElem?_cons_zero]; exact rfl
                  · rfl
                  · kernel_rfl
                  · kernel_rfl
                  · kernel_rfl
                  · exact fun _ _ _ _ h => h
                  apply Exists.intro
                  apply And.intro
                  · apply yr_run; rfl; intro w' hw'; go_simp; (try with_reducible rfl)
                  simp only [Act.put, List.setIfInBounds_toArray, List.set_cons_zero, List.set_cons_succ]
                  apply wpR_next 8 (some 91)
                  · simp only [List.getElem?_toArray, List.getElem?_cons_succ, List.getElem?_cons_zero]; exact rfl
                  · rfl
                  · kernel_rfl
                  · kernel_rfl
                  · kernel_rfl
                  · exact fun _ _ _ _ h => h
                  apply Exists.intro
                  apply And.intro
                  · apply yr_run; rfl; intro w' hw'; go_simp; (try with_reducible rfl)
                  simp only [Act.put, List.setIfInBounds_toArray, List.set_cons_zero, List.set_cons_succ]
                  apply wpR_next 9 (some 92)
                  · simp only [List.getElem?_toArray, List.getElem?_cons_succ, List.getElem?_cons_zero]; exact rfl
                  · rfl
                  · kernel_rfl
                  · kernel_rfl
                  · kernel_rfl
                  · exact fun _ _ _ _ h => h
                  apply Exists.intro
                  apply And.intro
                  · apply yr_run; rfl; intro w' hw'; exact exec_slice_high 22 5 (.tmp 89) (.tmp 91) rfl Try.underlying22 (s := 1) (by kernel_rfl) rfl rfl hkc
                  simp only [Act.put, List.setIfInBounds_toArray, List.set_cons_zero, List.set_cons_succ]
                  apply wpR_next 10 (some 93)
                  · simp only [List.getElem?_toArray, List.getElem?_cons_succ, List.getElem?_cons_zero]; exact rfl
                  · rfl
                  · kernel_rfl
                  · kernel_rfl
                  · kernel_rfl
                  · exact fun _ _ _ _ h => h
                  apply Exists.intro
                  apply And.intro
                  · apply yr_run; rfl; intro w' hw'; exact exec_convert 22 9 (.tmp 92) rfl rfl (hcv1 w' hw')
                  simp only [Act.put, List.setIfInBounds_toArray, List.set_cons_zero, List.set_cons_succ]
                  apply wpR_next 11 (some 94)
                  · simp only [List.getElem?_toArray, List.getElem?_cons_succ, List.getElem?_cons_zero]; exact rfl
                  · rfl
                  · kernel_rfl
                  · kernel_rfl
                  · kernel_rfl
                  · exact fun _ _ _ _ h => h
                  apply Exists.intro
                  apply And.intro
                  · apply yr_run; rfl; intro w' hw'; go_simp; (try with_reducible rfl)
                  simp only [Act.put, List.setIfInBounds_toArray, List.set_cons_zero, List.set_cons_succ]
                  apply wpR_next 12 (some 95)
                  · simp only [List.getElem?_toArray, List.getElem?_cons_succ, List.getElem?_cons_zero]; exact rfl
                  · rfl
                  · kernel_rfl
                  · kernel_rfl
                  · kernel_rfl
                  · exact fun _ _ _ _ h => h
                  apply Exists.intro
                  apply And.intro
                  · apply yr_run; rfl; intro w' hw'; exact exec_convert 22 9 (.tmp 94) rfl rfl (hcv2 w' hw')
                  simp only [Act.put, List.setIfInBounds_toArray, List.set_cons_zero, List.set_cons_succ]
                  apply wpR_next 13 (some 96)
                  · simp only [List.getElem?_toArray, List.getElem?_cons_succ, List.getElem?_cons_zero]; exact rfl
                  · rfl
                  · kernel_rfl
                  · kernel_rfl
                  · kernel_rfl
                  · exact fun _ _ _ _ h => h
                  apply Exists.intro
                  apply And.intro
                  · apply yr_run; rfl; intro w' hw'; go_simp; (try with_reducible rfl)
                  simp only [Act.put, List.setIfInBounds_toArray, List.set_cons_zero, List.set_cons_succ]
                  apply wpR_next 14 (some 97)
                  · simp only [List.getElem?_toArray, List.getElem?_cons_succ, List.getElem?_cons_zero]; exact rfl
                  · rfl
                  · kernel_rfl
                  · kernel_rfl
                  · kernel_rfl
                  · exact fun _ _ _ _ h => h
                  apply Exists.intro
                  apply And.intro
                  · apply yr_run; rfl; intro w' hw'; go_simp; (try with_reducible rfl)
                  simp only [Act.put, List.setIfInBounds_toArray, List.set_cons_zero, List.set_cons_succ]
                  apply wpR_next 15 (some 15)
                  · simp only [List.getElem?_toArray, List.getElem?_cons_succ, List.getElem?_cons_zero]; exact rfl
                  · rfl
                  · kernel_rfl
                  · kernel_rfl
                  · kernel_rfl
                  · exact fun _ _ _ _ h => h
                  apply Exists.intro
                  apply And.intro
                  · apply yr_run; rfl; intro w' hw'; go_simp; (try with_reducible rfl)
                  simp only [Act.put, List.setIfInBounds_toArray, List.set_cons_zero, List.set_cons_succ]
                  refine wpR_done (by kernel_rfl) ?_ _
                  intro wE hwE
                  have HwE : RowKit.Hid (Ext w9 wE) := Lib.hid (Ext.trans HD hwE)
                  clear hwE hcv1 hcv2 hte ht1 hkc hxy
                  go_wp2
                  go_meet
                  exact ⟨rfl, HwE.out⟩
                · have ht1 : ¬ (nx : Int) ≤ (ny : Int) := by omega
                  have hsm := Hno.out hxy
                  subst hsm
                  refine wp_region_reg (Nil_) (by kernel_rfl) ?_
                  apply wpR_next 0 (some 83)
                  · simp only [List.getElem?_toArray, List.getElem?_cons_succ, List.getElem?_cons_zero]; exact rfl
                  · rfl
                  · kernel_rfl
                  · kernel_rfl
                  · kernel_rfl
                  · exact fun _ _ _ _ h => h
                  apply Exists.intro
                  apply And.intro
                  · apply yr_run; rfl; intro w' hw'; go_simp; (try with_reducible rfl)
                  simp only [Act.put, List.setIfInBounds_toArray, List.set_cons_zero, List.set_cons_succ]
                  apply wpR_next 1 (some 84)
                  · simp only [List.getElem?_toArray, List.getElem?_cons_succ, List.getElem?_cons_zero]; exact rfl
                  · rfl
                  · kernel_rfl
                  · kernel_rfl
                  · kernel_rfl
                  · exact fun _ _ _ _ h => h
                  apply Exists.intro
                  apply And.intro
                  · apply yr_run; rfl; intro w' hw'; go_simp; (try with_reducible rfl)
                  simp only [Act.put, List.setIfInBounds_toArray, List.set_cons_zero, List.set_cons_succ]
                  apply wpR_next 2 (some 85)
                  · simp only [List.getElem?_toArray, List.getElem?_cons_succ, List.getElem?_cons_zero]; exact rfl
                  · rfl
                  · kernel_rfl
                  · kernel_rfl
                  · kernel_rfl
                  · exact fun _ _ _ _ h => h
                  apply Exists.intro
                  apply And.intro
                  · apply yr_run; rfl; intro w' hw'; go_simp; (try with_reducible rfl)
                  simp only [Act.put, List.setIfInBounds_toArray, List.set_cons_zero, List.set_cons_succ]
                  apply wpR_next 3 (some 86)
                  · simp only [List.getElem?_toArray, List.getElem?_cons_succ, List.getElem?_cons_zero]; exact rfl
                  · rfl
                  · kernel_rfl
                  · kernel_rfl
                  · kernel_rfl
                  · exact fun _ _ _ _ h => h
                  apply Exists.intro
                  apply And.intro
                  · apply yr_run; rfl; intro w' hw'; go_simp; (try with_reducible rfl)
                  simp only [Act.put, List.setIfInBounds_toArray, List.set_cons_zero, List.set_cons_succ]
                  apply wpR_next 4 (some 87)
                  · simp only [List.getElem?_toArray, List.getElem?_cons_succ, List.getElem?_cons_zero]; exact rfl
                  · rfl
                  · kernel_rfl
                  · kernel_rfl
                  · kernel_rfl
                  · exact fun _ _ _ _ h => h
                  apply Exists.intro
                  apply And.intro
                  · apply yr_run; rfl; intro w' hw'; go_simp; (try with_reducible rfl)
                  simp only [Act.put, List.setIfInBounds_toArray, List.set_cons_zero, List.set_cons_succ]
                  apply wpR_next 5 (some 88)
                  · simp only [List.getElem?_toArray, List.getElem?_cons_succ, List.getElem?_cons_zero]; exact rfl
                  · rfl
                  · kernel_rfl
                  · kernel_rfl
                  · kernel_rfl
                  · exact fun _ _ _ _ h => h
                  apply Exists.intro
                  apply And.intro
                  · apply yr_run; rfl; intro w' hw'; go_simp; (try with_reducible rfl)
                  simp only [Act.put, List.setIfInBounds_toArray, List.set_cons_zero, List.set_cons_succ]
                  apply wpR_next 6 (some 89)
                  · simp only [List.getElem?_toArray, List.getElem?_cons_succ, List.getElem?_cons_zero]; exact rfl
                  · rfl
                  · kernel_rfl
                  · kernel_rfl
                  · kernel_rfl
                  · exact fun _ _ _ _ h => h
                  apply Exists.intro
                  apply And.intro
                  · exact yr_skip (by rfl)
                  simp only [Act.put, List.setIfInBounds_toArray, List.set_cons_zero, List.set_cons_succ]
                  apply wpR_next 7 (some 90)
                  · simp only [List.getElem?_toArray, List.getElem?_cons_succ, List.getElem?_cons_zero]; exact rfl
                  · rfl
                  · kernel_rfl
                  · kernel_rfl
                  · kernel_rfl
                  · exact fun _ _ _ _ h => h
                  apply Exists.intro
                  apply And.intro
                  · exact yr_skip (by rfl)
                  simp only [Act.put, List.setIfInBounds_toArray, List.set_cons_zero, List.set_cons_succ]
                  apply wpR_next 8 (some 91)
                  · simp only [List.getElem?_toArray, List.getElem?_cons_succ, List.getElem?_cons_zero]; exact rfl
                  · rfl
                  · kernel_rfl
                  · kernel_rfl
                  · kernel_rfl
                  · exact fun _ _ _ _ h => h
                  apply Exists.intro
                  apply And.intro
                  · exact yr_skip (by rfl)
                  simp only [Act.put, List.setIfInBounds_toArray, List.set_cons_zero, List.set_cons_succ]
                  apply wpR_next 9 (some 92)
                  · simp only [List.getElem?_toArray, List.getElem?_cons_succ, List.getElem?_cons_zero]; exact rfl
                  · rfl
                  · kernel_rfl
                  · kernel_rfl
                  · kernel_rfl
                  · exact fun _ _ _ _ h => h
                  apply Exists.intro
                  apply And.intro
                  · exact yr_skip (by rfl)
                  simp only [Act.put, List.setIfInBounds_toArray, List.set_cons_zero, List.set_cons_succ]
                  apply wpR_next 10 (some 93)
                  · simp only [List.getElem?_toArray, List.getElem?_cons_succ, List.getElem?_cons_zero]; exact rfl
                  · rfl
                  · kernel_rfl
                  · kernel_rfl
                  · kernel_rfl
                  · exact fun _ _ _ _ h => h
                  apply Exists.intro
                  apply And.intro
                  · exact yr_skip (by rfl)
                  simp only [Act.put, List.setIfInBounds_toArray, List.set_cons_zero, List.set_cons_succ]
                  apply wpR_next 11 (some 94)
                  · simp only [List.getElem?_toArray, List.getElem?_cons_succ, List.getElem?_cons_zero]; exact rfl
                  · rfl
                  · kernel_rfl
                  · kernel_rfl
                  · kernel_rfl
                  · exact fun _ _ _ _ h => h
                  apply Exists.intro
                  apply And.intro
                  · exact yr_skip (by rfl)
                  simp only [Act.put, List.setIfInBounds_toArray, List.set_cons_zero, List.set_cons_succ]
                  apply wpR_next 12 (some 95)
                  · simp only [List.getElem?_toArray, List.getElem?_cons_succ, List.getElem?_cons_zero]; exact rfl
                  · rfl
                  · kernel_rfl
                  · kernel_rfl
                  · kernel_rfl
                  · exact fun _ _ _ _ h => h
                  apply Exists.intro
                  apply And.intro
                  · exact yr_skip (by rfl)
                  simp only [Act.put, List.setIfInBounds_toArray, List.set_cons_zero, List.set_cons_succ]
                  apply wpR_next 13 (some 96)
                  · simp only [List.getElem?_toArray, List.getElem?_cons_succ, List.getElem?_cons_zero]; exact rfl
                  · rfl
                  · kernel_rfl
                  · kernel_rfl
                  · kernel_rfl
                  · exact fun _ _ _ _ h => h
                  apply Exists.intro
                  apply And.intro
                  · exact yr_skip (by rfl)
                  simp only [Act.put, List.setIfInBounds_toArray, List.set_cons_zero, List.set_cons_succ]
                  apply wpR_next 14 (some 97)
                  · simp only [List.getElem?_toArray, List.getElem?_cons_succ, List.getElem?_cons_zero]; exact rfl
                  · rfl
                  · kernel_rfl
                  · kernel_rfl
                  · kernel_rfl
                  · exact fun _ _ _ _ h => h
                  apply Exists.intro
                  apply And.intro
                  · apply yr_run; rfl; intro w' hw'; go_simp; (try with_reducible rfl)
                  simp only [Act.put, List.setIfInBounds_toArray, List.set_cons_zero, List.set_cons_succ]
                  apply wpR_next 15 (some 15)
                  · simp only [List.getElem?_toArray, List.getElem?_cons_succ, List.getElem?_cons_zero]; exact rfl
                  · rfl
                  · kernel_rfl
                  · kernel_rfl
                  · kernel_rfl
                  · exact fun _ _ _ _ h => h
                  apply Exists.intro
                  apply And.intro
                  · apply yr_run; rfl; intro w' hw'; go_simp; (try with_reducible rfl)
                  simp only [Act.put, List.setIfInBounds_toArray, List.set_cons_zero, List.set_cons_succ]
                  refine wpR_done (by kernel_rfl) ?_ _
                  intro wE hwE
                  have HwE : RowKit.Hid (Ext w9 wE) := Lib.hid (Ext.trans HD hwE)
                  clear hwE ht1 hxy
                  go_wp2
                  go_meet
                  exact ⟨rfl, HwE.out⟩
              case rest =>
              obtain ⟨rfl, hz⟩ := hcut
              have HB10 := Lib.hid (bel_bl HB9.out hz)
              have HEk10 := Lib.hid (HEk9.out.bl hz)
              have HEj10 := Lib.hid (HEj9.out.bl hz)
              have Hqk10 := Lib.hid (hz.cell Hqk9.out)
              have Hqj10 := Lib.hid (hz.cell Hqj9.out)
              clear hz HB9 HEk9 HEj9 Hqk9 Hqj9 HX9 HY9
              obtain ⟨wq, gwq⟩ : ∃ z, wc = z := ⟨_, rfl⟩
              rw [gwq] at HB10 HEk10 HEj10 Hqk10 Hqj10 ⊢
              clear gwq
              go_upto_region 20 with fail
              have HD : RowKit.Hid (Ext wq wq.drew) := Lib.hid (below_drewN wq.heap.size wq 1)
              have lCk : ∀ w', Kept Nil_ wq.drew w' → w'.cell? ⟨bi, offi + k, none⟩ = some (.slice Ake nke cke) := fun w' h => h.nil_cell (HD.out.cell Hqk10.out)
              have lCj : ∀ w', Kept Nil_ wq.drew w' → w'.cell? ⟨bi, offi + j, none⟩ = some (.slice Aje nje cje) := fun w' h => h.nil_cell (HD.out.cell Hqj10.out)
              refine wp_region_reg (Nil_) (by kernel_rfl) ?_
              apply wpR_next 0 (some 98)
              · simp only [List.getElem?_toArray, List.getElem?_cons_succ, List.getElem?_cons_zero]; exact rfl
              · rfl
              · kernel_rfl
              · kernel_rfl
              · kernel_rfl
              · exact fun _ _ _ _ h => h
              apply Exists.intro
              apply And.intro
              · apply yr_run; rfl; intro w' hw'; go_simp; (try with_reducible rfl)
              simp only [Act.put, List.setIfInBounds_toArray, List.set_cons_zero, List.set_cons_succ]
              apply wpR_next 1 (some 99)
              · simp only [List.getElem?_toArray, List.getElem?_cons_succ, List.getElem?_cons_zero]; exact rfl
              · rfl
              · kernel_rfl
              · kernel_rfl
              · kernel_rfl
              · exact fun _ _ _ _ h => h
              apply Exists.intro
              apply And.intro
              · apply yr_run; rfl; intro w' hw'; go_simp; (try with_reducible rfl)
              simp only [Act.put, List.setIfInBounds_toArray, List.set_cons_zero, List.set_cons_succ]
              apply wpR_next 2 (some 100)
              · simp only [List.getElem?_toArray, List.getElem?_cons_succ, List.getElem?_cons_zero]; exact rfl
              · rfl
              · kernel_rfl
              · kernel_rfl
              · kernel_rfl
              · exact fun _ _ _ _ h => h
              apply Exists.intro
              apply And.intro
              · apply yr_run; rfl; intro w' hw'; go_simp; (try with_reducible rfl)
              simp only [Act.put, List.setIfInBounds_toArray, List.set_cons_zero, List.set_cons_succ]
              apply wpR_next 3 (some 101)
              · simp only [List.getElem?_toArray, List.getElem?_cons_succ, List.getElem?_cons_zero]; exact rfl
              · rfl
              · kernel_rfl
              · kernel_rfl
              · kernel_rfl
              · exact fun _ _ _ _ h => h
              apply Exists.intro
              apply And.intro
              · apply yr_run; rfl; intro w' hw'; go_simp; (try with_reducible rfl)
              simp only [Act.put, List.setIfInBounds_toArray, List.set_cons_zero, List.set_cons_succ]
              apply wpR_next 4 (some 102)
              · simp only [List.getElem?_toArray, List.getElem?_cons_succ, List.getElem?_cons_zero]; exact rfl
              · rfl
              · kernel_rfl
              · kernel_rfl
              · kernel_rfl
              · exact fun _ _ _ _ h => h
              apply Exists.intro
              apply And.intro
              · apply yr_run; rfl; intro w' hw'; go_simp; (try with_reducible rfl)
              simp only [Act.put, List.setIfInBounds_toArray, List.set_cons_zero, List.set_cons_succ]
              apply wpR_next 5 (some 103)
              · simp only [List.getElem?_toArray, List.getElem?_cons_succ, List.getElem?_cons_zero]; exact rfl
              · rfl
              · kernel_rfl
              · kernel_rfl
              · kernel_rfl
              · exact fun _ _ _ _ h => h
              apply Exists.intro
              apply And.intro
              · apply yr_run; rfl; intro w' hw'; go_simp; (try with_reducible rfl)
              simp only [Act.put, List.setIfInBounds_toArray, List.set_cons_zero, List.set_cons_succ]
              apply wpR_next 6 (some 104)
              · simp only [List.getElem?_toArray, List.getElem?_cons_succ, List.getElem?_cons_zero]; exact rfl
              · rfl
              · kernel_rfl
              · kernel_rfl
              · kernel_rfl
              · exact fun _ _ _ _ h => h
              apply Exists.intro
              apply And.intro
              · apply yr_run; rfl; intro w' hw'; go_simp; (try with_reducible rfl)
              simp only [Act.put, List.setIfInBounds_toArray, List.set_cons_zero, List.set_cons_succ]
              apply wpR_next 7 (some 105)
              · simp only [List.getElem?_toArray, List.getElem?_cons_succ, List.getElem?_cons_zero]; exact rfl
              · rfl
              · kernel_rfl
              · kernel_rfl
              · kernel_rfl
              · exact fun _ _ _ _ h => h
              apply Exists.intro
              apply And.intro
              · apply yr_run; rfl; intro w' hw'; go_simp; (try with_reducible rfl)
              simp only [Act.put, List.setIfInBounds_toArray, List.set_cons_zero, List.set_cons_succ]
              apply wpR_call 8 (some 106)
              · simp only [List.getElem?_toArray, List.getElem?_cons_succ, List.getElem?_cons_zero]; exact rfl
              · rfl
              · kernel_rfl
              · rfl
              · intro w'; go_simp; first | done | exact ⟨rfl, rfl⟩ | with_reducible rfl
              intro w' hw'
              have hE := Ext.trans HD.out hw'
              refine (rsame_any Ake Aje nke nje cke cje Ek Ej w' (HEk10.out.bl hE) (HEj10.out.bl hE) (by unfold maxLen; omega)).mono ?_
              rintro e wb ⟨rfl, hb⟩
              refine ⟨_, rfl, Kept.of_below hb, ?_⟩
              have HBz := Lib.hid (bel_bl HB10.out (Ext.trans hE hb))
              clear hw' hE hb lCk lCj
              simp only [Act.put, List.setIfInBounds_toArray, List.set_cons_zero, List.set_cons_succ]
              apply wpR_next 9 (some 16)
              · simp only [List.getElem?_toArray, List.getElem?_cons_succ, List.getElem?_cons_zero]; exact rfl
              · rfl
              · kernel_rfl
              · kernel_rfl
              · kernel_rfl
              · exact fun _ _ _ _ h => h
              apply Exists.intro
              apply And.intro
              · apply yr_run; rfl; intro w' hw'; go_simp; (try with_reducible rfl)
              simp only [Act.put, List.setIfInBounds_toArray, List.set_cons_zero, List.set_cons_succ]
              refine wpR_done (by kernel_rfl) ?_ _
              intro wE hwE
              have HBy : RowKit.Hid (Below wA.heap.size wA wE) := Lib.hid (bel_bl HBz.out hwE)
              rw [Gsm.out]
              clear hwE HBz HD
              cases sm
              · go_wp2
                go_roundw
                case rel => exact ⟨j + 1, by omega, by go_num, HBy⟩
                case measure => simp [intOf]; omega
              · go_wp2
                go_roundw
                case rel => exact ⟨j + 1, by omega, by go_num, HBy⟩
                case measure => simp [intOf]; omega
            · have hi2 : ¬ (j : Int) < (k : Int) := by omega
              go_wp2
              go_roundw
              case rel => exact ⟨k + 1, by omega, by go_num, hin2⟩
              case measure => simp [intOf]; omega
        · have hi1 : ¬ (k : Int) < (m : Int) := by omega
          have hin' := hin.out
          obtain ⟨wB, gwB⟩ : ∃ z, wr = z := ⟨_, rfl⟩
          rw [gwB] at hin' ⊢
          have HB3 := Lib.hid (bel_bl HB.out hin')
          have HI3 := Lib.hid (HI.out.up hin')
          have HO3 : RowKit.Hid (RdS wB wB.heap.size 1 Ab nb cb (rowsV f8 (bytesE Ls))) := Lib.hid (own_rds (own_up HO.out hin'))
          clear hin hin' gwB HO HI hlt hk
          go_upto_region 24 with fail
          clear hi1
          go_loopw [4, 17] (fun v i wx => ∃ (k : Nat) (A : Option Addr) (n c : Nat), k ≤ m ∧ i = .int .i64 (k : Int) ∧ v = .slice A n c ∧ n = (bytesE (Ls.drop k)).length ∧ RowKit.Hid (Below wB.heap.size wB wx ∧ RdS wx wx.heap.size 1 A n c (rowsV f8 (bytesE (Ls.drop k))))) (fun _ i _ => m - (intOf i).toNat)
          case atStart => exact ⟨0, Ab, nb, cb, Nat.zero_le _, rfl, rfl, Hnb.out, Lib.hid ⟨Below.refl _ _, HO3.out⟩⟩
          case round =>
            clear HO3
            obtain ⟨k, A1, n1, c1, hk, rfl, rfl, hn1, hin⟩ := hrel
            by_cases hlt : k < m
            · have hi1 : (k : Int) < (m : Int) := by omega
              have HIr := Lib.hid (HI3.out.up hin.out.1)
              have hxk_ : Ls[k]? = some (Ls[k]'(by have := HLl.out; omega)) := List.getElem?_eq_getElem _
              obtain ⟨⟨Ake, nke, cke, Ek⟩, gke⟩ : ∃ e, Ls[k]'(by have := HLl.out; omega) = e := ⟨_, rfl⟩
              rw [gke] at hxk_
              have hmemk := List.mem_of_getElem? hxk_
              have HMk := Lib.hid (HIr.out.may _ hmemk).1
              have hnke := (HIr.out.may _ hmemk).2
              have HEk := Lib.hid (own_rds (HIr.out.each _ hmemk))
              simp only at HMk hnke HEk
              clear gke hmemk
              have hrow0 := HIr.out.row
              rw [HLl.out] at hrow0
              have hrow := own_rds hrow0
              obtain ⟨bi, offi, rfl, hbi, hpl⟩ := hrow.place eSl_len (by decide) (by omega)
              have qk := hpl k _ hxk_ 0 _ rfl
              simp only [Addr.add_lit, Nat.add_zero, Nat.mul_one, Nat.zero_add] at qk
              have Hqk := Lib.hid qk
              have hbiw : bi < wr.heap.size := hbi
              have Hbi := Lib.hid hbiw
              have hdr := bytesE_drop hxk_
              simp only at hdr
              have hln : n1 ≤ 139 * 8 := by
                rw [hn1]
                have h1 := bytesE_len (Ls := Ls.drop k) (fun e q => HI3.out.may e (List.mem_of_mem_drop q))
                rw [List.length_drop] at h1
                have := HLl.out
                omega
              obtain ⟨R, gR⟩ : ∃ z, bytesE (Ls.drop (k + 1)) = z := ⟨_, rfl⟩
              rw [gR] at hdr
              have htk := back_tk HMk.out R
              rw [← hdr] at htk
              obtain ⟨t1, t2, t3⟩ := htk
              have hpos := edB_pos Ek
              obtain ⟨nR, gnR⟩ : ∃ z, R.length = z := ⟨_, rfl⟩
              have hnr : nR < n1 := by rw [hn1, hdr, List.length_append]; omega
              have hnr2 : ¬ (n1 : Int) ≤ (nR : Int) := by omega
              have hnk := HEk.out.rlen opCells_len' (by decide)
              have HT : Calls Try.prog 13 #[.slice A1 n1 c1] wr fun e w' => ∃ A2 k2 A3 k3, e = .returned (.tuple #[.agg #[.slice A2 nke k2], .slice A3 nR k3, .int .i64 0]) ∧ w'.ownsRow wr.heap.size 48 20 (.slice A2 nke k2) nke (rowsV opCells Ek) ∧ w'.ownsRow wr.heap.size 5 1 (.slice A3 nR k3) nR (rowsV f8 R) ∧ Below wr.heap.size wr w' := by
                have h1 := otake_any A1 c1 (bytesE (Ls.drop k)) wr (by rw [← hn1]; exact hin.out.2) (by omega) (bytesE_lt _)
                rw [← hn1] at h1
                refine h1.mono ?_
                rintro e w' ⟨A2, k2, A3, k3, m2, rfl, rfl, ho1, ho2, hb⟩
                rw [t1, hnk] at ho1
                rw [t2, gnR] at ho2
                exact ⟨A2, k2, A3, k3, by simp only [t1, t2, t3, hnk, gnR]; try rfl, ho1, ho2, hb⟩
              have HTh := Lib.hid HT
              have GR := Lib.hid gR
              have GnR := Lib.hid gnR
              have HBx := Lib.hid hin.out.1
              clear HT gR gnR hin hdr t1 t2 t3 hpos hnr hnk hn1 hxk_ hpl hrow hrow0 hbi hbiw HIr hln
              go_upto_region 27 with (first
                | (go_at_call 13
                   refine HTh.out.mono ?_
                   rintro e w2 ⟨A2, k2, A3, k3, rfl, ho1, ho2, hb⟩
                   have HB5 := Lib.hid (bel_al (bel_bl HBx.out hb) (.cells #[.slice A2 nke k2] 25))
                   have HEk5 := Lib.hid ((HEk.out.bl hb).al (.cells #[.slice A2 nke k2] 25))
                   have HA5 := Lib.hid ((own_rds ho1).al (.cells #[.slice A2 nke k2] 25))
                   have HR5 := Lib.hid ((own_rds ho2).al (.cells #[.slice A2 nke k2] 25))
                   have HX5 : RowKit.Hid (Whole (w2.alloc (.cells #[.slice A2 nke k2] 25)) w2.heap.size 25 [.slice A2 nke k2]) := Lib.hid (Whole.new_ _ _ [_])
                   have Hqk5 : RowKit.Hid ((w2.alloc (.cells #[.slice A2 nke k2] 25)).cell? ⟨bi, offi + k, none⟩ = some (.slice Ake nke cke)) := Lib.hid ((Ext.trans (show Ext wr w2 from hb) (below1 _ _)).cell Hqk.out)
                   clear ho1 ho2 hb qk))
              clear HTh HBx HEk Hqk Hbi
              obtain ⟨wq, gwq⟩ : ∃ z, w2.alloc (.cells #[.slice A2 nke k2] 25) = z := ⟨_, rfl⟩
              rw [gwq] at HB5 HEk5 HA5 HR5 HX5 Hqk5 ⊢
              obtain ⟨b18, gb18⟩ : ∃ z, w2.heap.size = z := ⟨_, rfl⟩
              rw [gb18] at HX5 ⊢
              clear gwq gb18
              have HD : RowKit.Hid (Ext wq wq.drew) := Lib.hid (below_drewN wq.heap.size wq 1)
              have lCk : ∀ w', Kept Nil_ wq.drew w' → w'.cell? ⟨bi, offi + k, none⟩ = some (.slice Ake nke cke) := fun w' h => h.nil_cell (HD.out.cell Hqk5.out)
              have lCz : ∀ w', Kept Nil_ wq.drew w' → w'.cell? ⟨b18, 0, none⟩ = some (.slice A2 nke k2) := fun w' h => h.nil_cell (HX5.out.dr.cell (i := 0) rfl)
              refine wp_region_reg (Nil_) (by kernel_rfl) ?_
              apply wpR_next 0 (some 122)
              · simp only [List.getElem?_toArray, List.getElem?_cons_succ, List.getElem?_cons_zero]; exact rfl
              · rfl
              · kernel_rfl
              · kernel_rfl
              · kernel_rfl
              · exact fun _ _ _ _ h => h
              apply Exists.intro
              apply And.intro
              · apply yr_run; rfl; intro w' hw'; go_simp; (try with_reducible rfl)
              simp only [Act.put, List.setIfInBounds_toArray, List.set_cons_zero, List.set_cons_succ]
              apply wpR_next 1 (some 123)
              · simp only [List.getElem?_toArray, List.getElem?_cons_succ, List.getElem?_cons_zero]; exact rfl
              · rfl
              · kernel_rfl
              · kernel_rfl
              · kernel_rfl
              · exact fun _ _ _ _ h => h
              apply Exists.intro
              apply And.intro
              · apply yr_run; rfl; intro w' hw'; go_simp; (try with_reducible rfl)
              simp only [Act.put, List.setIfInBounds_toArray, List.set_cons_zero, List.set_cons_succ]
              apply wpR_next 2 (some 124)
              · simp only [List.getElem?_toArray, List.getElem?_cons_succ, List.getElem?_cons_zero]; exact rfl
              · rfl
              · kernel_rfl
              · kernel_rfl
              · kernel_rfl
              · exact fun _ _ _ _ h => h
              apply Exists.intro
              apply And.intro
              · apply yr_run; rfl; intro w' hw'; go_simp; (try with_reducible rfl)
              simp only [Act.put, List.setIfInBounds_toArray, List.set_cons_zero, List.set_cons_succ]
              apply wpR_next 3 (some 125)
              · simp only [List.getElem?_toArray, List.getElem?_cons_succ, List.getElem?_cons_zero]; exact rfl
              · rfl
              · kernel_rfl
              · kernel_rfl
              · kernel_rfl
              · exact fun _ _ _ _ h => h
              apply Exists.intro
              apply And.intro
              · apply yr_run; rfl; intro w' hw'; go_simp; (try with_reducible rfl)
              simp only [Act.put, List.setIfInBounds_toArray, List.set_cons_zero, List.set_cons_succ]
              apply wpR_next 4 (some 126)
              · simp only [List.getElem?_toArray, List.getElem?_cons_succ, List.getElem?_cons_zero]; exact rfl
              · rfl
              · kernel_rfl
              · kernel_rfl
              · kernel_rfl
              · exact fun _ _ _ _ h => h
              apply Exists.intro
              apply And.intro
              · apply yr_run; rfl; intro w' hw'; go_simp; (try with_reducible rfl)
              simp only [Act.put, List.setIfInBounds_toArray, List.set_cons_zero, List.set_cons_succ]
              apply wpR_call 5 (some 127)
              · simp only [List.getElem?_toArray, List.getElem?_cons_succ, List.getElem?_cons_zero]; exact rfl
              · rfl
              · kernel_rfl
              · rfl
              · intro w'; go_simp; first | done | exact ⟨rfl, rfl⟩ | with_reducible rfl
              intro w' hw'
              have hE := Ext.trans HD.out hw'
              have h1 := rsame_any A2 Ake nke nke k2 cke Ek Ek w' (HA5.out.bl hE) (HEk5.out.bl hE) (by unfold maxLen; omega)
              rw [decide_eq_true (rfl : Ek = Ek)] at h1
              refine h1.mono ?_
              rintro e wb ⟨rfl, hb⟩
              refine ⟨_, rfl, Kept.of_below hb, ?_⟩
              have HBz := Lib.hid (bel_bl HB5.out (Ext.trans hE hb))
              have HRz := Lib.hid (HR5.out.bl (Ext.trans hE hb))
              clear hw' hE hb h1 lCk lCz
              simp only [Act.put, List.setIfInBounds_toArray, List.set_cons_zero, List.set_cons_succ]
              apply wpR_next 6 (some 21)
              · simp only [List.getElem?_toArray, List.getElem?_cons_succ, List.getElem?_cons_zero]; exact rfl
              · rfl
              · kernel_rfl
              · kernel_rfl
              · kernel_rfl
              · exact fun _ _ _ _ h => h
              apply Exists.intro
              apply And.intro
              · apply yr_run; rfl; intro w' hw'; go_simp; (try with_reducible rfl)
              simp only [Act.put, List.setIfInBounds_toArray, List.set_cons_zero, List.set_cons_succ]
              refine wpR_done (by kernel_rfl) ?_ _
              intro wE hwE
              have HBy := Lib.hid (bel_bl HBz.out hwE)
              have HRy := Lib.hid (HRz.out.bl hwE)
              clear hwE HBz HRz HD
              go_wp2
              go_roundw
              case rel => exact ⟨k + 1, A3, nR, k3, by omega, by go_num, rfl, by rw [GR.out, GnR.out], Lib.hid ⟨HBy.out, by rw [GR.out]; exact HRy.out⟩⟩
              case measure => simp [intOf]; omega
            · obtain rfl : m = k := by omega
              have hi1 : ¬ (m : Int) < (m : Int) := by omega
              have hn0 : n1 = 0 := by
                rw [hn1, List.drop_eq_nil_of_le (Nat.le_of_eq HLl.out)]
                rfl
              subst hn0
              have HBz := Lib.hid (bel_bl HB3.out hin.out.1)
              clear hin hlt hn1
              go_wp2
              go_ret
              exact ⟨rfl, HBz.out⟩
end Go.Proofs.Ytoiflngpjdghbaa

/- 'OpcodeRows' answers true for every row of edits.
   No condition beyond the row's own. -/
namespace Go.Proofs.Ytoiflngpjdghbaa
open Go.ChangeShapes Go.WideShapes Go.ChangeAt Go.RowKit
namespace lawOpcodeRows

set_option maxRecDepth 100000 in
theorem contract (H : Type) (enc : TypeId × Value → H) (W : World) (base : Nat) (args : Array Value) (ds gs : List (DataW H)) (before : List MemPlace)
    (hval : ∀ (j : Nat) t v, Try.f6.params[j]? = some t → args[j]? = some v → Value.okWide Try.prog W .any base t v)
    (hW : DataW.Whole enc Try.prog Try.f6.params.toList Rows.opcodeRowsSpec.vars false W args.toList ds gs before) :
    Calls Try.prog 6 args W fun e W' => ∃ v, e = .returned v ∧ Rows.opcodeRowsSpec.post enc Try.prog Try.f6 false true false false W args v W' := by
  have hW' := hW
  obtain ⟨p, q, hA, hV, rfl, hfz, hnd⟩ := hW
  obtain ⟨rfl, rfl⟩ := trodVars_none hV
  rw [Try.params6] at hA hval
  obtain ⟨v0, d0, rfl, rfl, h0⟩ := trodAll_one hA
  obtain ⟨l, rfl, hx0⟩ := open_row1_slice (row1_edit H) Try.underlying39 (by kernel_rfl) (fun _ => rfl) (by decide) (hval 0 39 v0 rfl rfl) h0
  refine (law_rows l.1 l.2.1 l.2.2.1 l.2.2.2 W hx0.2.1 (Nat.le_trans hx0.2.1.le hx0.1) (fun e q => ⟨(hx0.2.2 e q).2.1, Nat.le_trans (hx0.2.2 e q).2.1.le (hx0.2.2 e q).1⟩)).mono fun e W' ⟨he, hb⟩ => ⟨_, he, ?_⟩
  exact law_post Try.laidOut (by kernel_rfl) (tb := 4) (by kernel_rfl) Try.underlying4 rfl ⟨rfl, rfl, rfl⟩ hW' hb

set_option maxRecDepth 100000 in
theorem lifted (os : Os) (started : os.Started) (H : Type) (enc : TypeId × Value → H) :
    ReturnsInHanded {} Try.checked os 6 .any (Rows.opcodeRowsSpec.pre6 enc Try.prog Try.f6 Rows.opcodeRowsRow.domain false) (Rows.opcodeRowsSpec.post enc Try.prog Try.f6 false true false false) := by
  refine returnsInHanded_of_change (C := Try.checked) Try.own started (by kernel_rfl) Try.func6
    (ChangeSpec.witness6 (enc := enc) (C := Try.checked) false ⟨#[], #[.slice none 0 0], []⟩ 8 (by kernel_rfl) (by kernel_rfl) (by kernel_rfl) (by kernel_rfl)) ?_
  intro W base args ds gs before hval hW _ _
  exact contract H enc W base args ds gs before hval hW

theorem proved : Rows.OpcodeRowsSaid :=
  OpenClaim.holds_of_wide 6 Try.f6 rfl rfl rfl rfl rfl rfl rfl ⟨rfl, rfl, rfl, rfl, rfl⟩ rfl rfl rfl rfl rfl (by kernel_rfl) Try.func6 (by kernel_rfl)
    (of_decide_eq_true (by kernel_rfl)) (by unfold Func.isWrapper; first | (rw [if_pos (by decide +kernel)]; kernel_rfl) | (rw [if_neg (by decide +kernel)]; exact ⟨rfl, rfl⟩))
    (fun os started H enc _ => lifted os started H enc)
end lawOpcodeRows
end Go.Proofs.Ytoiflngpjdghbaa
