/- Any two rows of ints compared; the law ReceiverBounds. -/
import Derived.Test.YthfngmlnmpbcpaaRv5
import Derived.Test.YthfngmlnmpbcpaaRv2
namespace Go.Proofs.Ythfngmlnmpbcpaa
open Go.RowKit Go.Maps
set_option linter.unusedSimpArgs false
set_option linter.unusedVariables false

theorem and15_ (x : Int) : ∃ v : Nat, v ≤ 15 ∧ bits .and .i64 x 15 = (v : Int) := by
  have h : (BitVec.ofInt 64 x &&& BitVec.ofInt 64 15).toNat ≤ 15 := by
    rw [BitVec.toNat_and]
    exact Nat.and_le_right
  refine ⟨_, h, ?_⟩
  show IntKind.i64.wrap ((BitVec.ofInt 64 x &&& BitVec.ofInt 64 15).toNat : Int) = _
  exact IntWalk.i64_in _ (by omega)
/-- A row of ints, cell by cell. -/
theorem introw {w : World} {B n c : Nat} {A : Option Addr} {xs : List Int} (h : RdS w B 1 A n c (rowsV intC xs)) (hn : 0 < n) : ∃ b off, A = some ⟨b, off, none⟩ ∧ b < B ∧ ∀ k x, xs[k]? = some x → w.cell? ⟨b, off + k, none⟩ = some (.int .i64 x) := by
  obtain ⟨b, off, h1, h2, h3⟩ := h.place intC_len (by decide) hn
  refine ⟨b, off, h1, h2, fun k x hx => ?_⟩
  have := h3 k x hx 0 _ rfl
  rw [Addr.add_lit] at this
  simpa using this
set_option maxRecDepth 100000 in
set_option maxHeartbeats 1000000 in
theorem ints_any (A1 A2 : Option Addr) (n1 n2 c1 c2 : Nat) (xs ys : List Int) (w : World) (h1 : RdS w w.heap.size 1 A1 n1 c1 (rowsV intC xs)) (h2 : RdS w w.heap.size 1 A2 n2 c2 (rowsV intC ys)) (hn1 : n1 ≤ 200000) (hn2 : n2 ≤ 200000) :
    Calls Try.prog 18 #[.slice A1 n1 c1, .slice A2 n2 c2] w fun e w' => ∃ tb, e = .returned (.bool tb) ∧ Below w.heap.size w w' := by
  have hl1 := h1.rlen intC_len (by decide)
  have hl2 := h2.rlen intC_len (by decide)
  have H1 := Lib.hid h1
  have H2 := Lib.hid h2
  have Hl1 := Lib.hid hl1
  have Hl2 := Lib.hid hl2
  clear h1 h2 hl1 hl2
  by_cases hnn : n1 = n2
  · subst hnn
    go_enter Try.func18, Try.ntmps18
    go_wp2
    go_loopw [5] (fun si wr => ∃ j : Nat, j ≤ n1 ∧ si = .int .i64 j ∧ RowKit.Hid (Below w.heap.size w wr)) (fun si _ => n1 - (intOf si).toNat)
    case atStart => exact ⟨0, Nat.zero_le _, rfl, Lib.hid (Below.refl _ _)⟩
    case round =>
      obtain ⟨j, hj, rfl, HB⟩ := hrel
      by_cases hjn : j < n1
      · obtain ⟨b1, o1, rfl, hb1, hp1⟩ := introw H1.out (by omega)
        obtain ⟨b2, o2, rfl, hb2, hp2⟩ := introw H2.out (by omega)
        obtain ⟨x, hx⟩ : ∃ x, xs[j]? = some x := ⟨_, List.getElem?_eq_getElem (by have := Hl1.out; omega)⟩
        obtain ⟨y, hy⟩ : ∃ y, ys[j]? = some y := ⟨_, List.getElem?_eq_getElem (by have := Hl2.out; omega)⟩
        have k1' := (HB.out.cell (p := ⟨b1, o1 + j, none⟩) hb1).trans (hp1 j x hx)
        have k2' := (HB.out.cell (p := ⟨b2, o2 + j, none⟩) hb2).trans (hp2 j y hy)
        have ld1 : ∀ w', Kept Nil_ wr.drew w' → w'.cell? ⟨b1, o1 + j, none⟩ = some (.int .i64 x) := fun w' hk => hk.nil_cell (show wr.drew.cell? ⟨b1, o1 + j, none⟩ = _ from k1')
        have ld2 : ∀ w', Kept Nil_ wr.drew w' → w'.cell? ⟨b2, o2 + j, none⟩ = some (.int .i64 y) := fun w' hk => hk.nil_cell (show wr.drew.cell? ⟨b2, o2 + j, none⟩ = _ from k2')
        clear hx hy hp1 hp2 k1' k2' hb1 hb2
        by_cases hxy : x = y
        · have q1 : (x == y) = true := beq_iff_eq.2 hxy
          have q2 : (x != y) = false := by rw [bne, q1]; rfl
          clear hxy
          go_upto_region 6 with fail
          refine wp_region_reg (Nil_) (by kernel_rfl) ?_
          apply wpR_next 0 (some 17)
          · simp only [List.getElem?_toArray, List.getElem?_cons_succ, List.getElem?_cons_zero]; exact rfl
          · rfl
          · kernel_rfl
          · kernel_rfl
          · kernel_rfl
          · exact fun _ _ _ _ h => h
          apply Exists.intro
          apply And.intro
          · apply yr_run; rfl; intro w' hw'; go_simp; (try with_reducible rfl)
          simp only [Act.put, List.setIfInBounds_toArray, List.set_cons_zero, List.set_cons_succ]
          apply wpR_next 1 (some 18)
          · simp only [List.getElem?_toArray, List.getElem?_cons_succ, List.getElem?_cons_zero]; exact rfl
          · rfl
          · kernel_rfl
          · kernel_rfl
          · kernel_rfl
          · exact fun _ _ _ _ h => h
          apply Exists.intro
          apply And.intro
          · apply yr_run; rfl; intro w' hw'; go_simp; (try with_reducible rfl)
          simp only [Act.put, List.setIfInBounds_toArray, List.set_cons_zero, List.set_cons_succ]
          apply wpR_next 2 (some 19)
          · simp only [List.getElem?_toArray, List.getElem?_cons_succ, List.getElem?_cons_zero]; exact rfl
          · rfl
          · kernel_rfl
          · kernel_rfl
          · kernel_rfl
          · exact fun _ _ _ _ h => h
          apply Exists.intro
          apply And.intro
          · apply yr_run; rfl; intro w' hw'; go_simp; (try with_reducible rfl)
          simp only [Act.put, List.setIfInBounds_toArray, List.set_cons_zero, List.set_cons_succ]
          apply wpR_next 3 (some 20)
          · simp only [List.getElem?_toArray, List.getElem?_cons_succ, List.getElem?_cons_zero]; exact rfl
          · rfl
          · kernel_rfl
          · kernel_rfl
          · kernel_rfl
          · exact fun _ _ _ _ h => h
          apply Exists.intro
          apply And.intro
          · apply yr_run; rfl; intro w' hw'; go_simp; (try with_reducible rfl)
          simp only [Act.put, List.setIfInBounds_toArray, List.set_cons_zero, List.set_cons_succ]
          apply wpR_next 4 (some 21)
          · simp only [List.getElem?_toArray, List.getElem?_cons_succ, List.getElem?_cons_zero]; exact rfl
          · rfl
          · kernel_rfl
          · kernel_rfl
          · kernel_rfl
          · exact fun _ _ _ _ h => h
          apply Exists.intro
          apply And.intro
          · apply yr_run; rfl; intro w' hw'; go_simp; (try with_reducible rfl)
          simp only [Act.put, List.setIfInBounds_toArray, List.set_cons_zero, List.set_cons_succ]
          apply wpR_next 5 (some 22)
          · simp only [List.getElem?_toArray, List.getElem?_cons_succ, List.getElem?_cons_zero]; exact rfl
          · rfl
          · kernel_rfl
          · kernel_rfl
          · kernel_rfl
          · exact fun _ _ _ _ h => h
          apply Exists.intro
          apply And.intro
          · apply yr_run; rfl; intro w' hw'; go_simp; (try with_reducible rfl)
          simp only [Act.put, List.setIfInBounds_toArray, List.set_cons_zero, List.set_cons_succ]
          apply wpR_next 6 (some 23)
          · simp only [List.getElem?_toArray, List.getElem?_cons_succ, List.getElem?_cons_zero]; exact rfl
          · rfl
          · kernel_rfl
          · kernel_rfl
          · kernel_rfl
          · exact fun _ _ _ _ h => h
          apply Exists.intro
          apply And.intro
          · apply yr_run; rfl; intro w' hw'; go_simp; (try with_reducible rfl)
          simp only [Act.put, List.setIfInBounds_toArray, List.set_cons_zero, List.set_cons_succ]
          apply wpR_next 7 (some 24)
          · simp only [List.getElem?_toArray, List.getElem?_cons_succ, List.getElem?_cons_zero]; exact rfl
          · rfl
          · kernel_rfl
          · kernel_rfl
          · kernel_rfl
          · exact fun _ _ _ _ h => h
          apply Exists.intro
          apply And.intro
          · apply yr_run; rfl; intro w' hw'; go_simp; (try with_reducible rfl)
          simp only [Act.put, List.setIfInBounds_toArray, List.set_cons_zero, List.set_cons_succ]
          apply wpR_next 8 (some 25)
          · simp only [List.getElem?_toArray, List.getElem?_cons_succ, List.getElem?_cons_zero]; exact rfl
          · rfl
          · kernel_rfl
          · kernel_rfl
          · kernel_rfl
          · exact fun _ _ _ _ h => h
          apply Exists.intro
          apply And.intro
          · apply yr_run; rfl; intro w' hw'; go_simp; (try with_reducible rfl)
          simp only [Act.put, List.setIfInBounds_toArray, List.set_cons_zero, List.set_cons_succ]
          refine wpR_done (by kernel_rfl) ?_ _
          intro W5 hw5
          have HB5 : RowKit.Hid (Below w.heap.size w W5) := Lib.hid (bel_bl HB.out (Ext.trans ((Below.refl _ _).drew) hw5))
          clear hw5 ld1 ld2 HB
          go_wp2
          go_roundw
          case rel => exact ⟨j + 1, by omega, by go_num, HB5⟩
          case measure => simp [intOf]; omega
        · have q1 : (x == y) = false := beq_eq_false_iff_ne.2 hxy
          have q2 : (x != y) = true := by rw [bne, q1]; rfl
          clear hxy
          go_upto_region 6 with fail
          refine wp_region_reg (Nil_) (by kernel_rfl) ?_
          apply wpR_next 0 (some 17)
          · simp only [List.getElem?_toArray, List.getElem?_cons_succ, List.getElem?_cons_zero]; exact rfl
          · rfl
          · kernel_rfl
          · kernel_rfl
          · kernel_rfl
          · exact fun _ _ _ _ h => h
          apply Exists.intro
          apply And.intro
          · apply yr_run; rfl; intro w' hw'; go_simp; (try with_reducible rfl)
          simp only [Act.put, List.setIfInBounds_toArray, List.set_cons_zero, List.set_cons_succ]
          apply wpR_next 1 (some 18)
          · simp only [List.getElem?_toArray, List.getElem?_cons_succ, List.getElem?_cons_zero]; exact rfl
          · rfl
          · kernel_rfl
          · kernel_rfl
          · kernel_rfl
          · exact fun _ _ _ _ h => h
          apply Exists.intro
          apply And.intro
          · apply yr_run; rfl; intro w' hw'; go_simp; (try with_reducible rfl)
          simp only [Act.put, List.setIfInBounds_toArray, List.set_cons_zero, List.set_cons_succ]
          apply wpR_next 2 (some 19)
          · simp only [List.getElem?_toArray, List.getElem?_cons_succ, List.getElem?_cons_zero]; exact rfl
          · rfl
          · kernel_rfl
          · kernel_rfl
          · kernel_rfl
          · exact fun _ _ _ _ h => h
          apply Exists.intro
          apply And.intro
          · apply yr_run; rfl; intro w' hw'; go_simp; (try with_reducible rfl)
          simp only [Act.put, List.setIfInBounds_toArray, List.set_cons_zero, List.set_cons_succ]
          apply wpR_next 3 (some 20)
          · simp only [List.getElem?_toArray, List.getElem?_cons_succ, List.getElem?_cons_zero]; exact rfl
          · rfl
          · kernel_rfl
          · kernel_rfl
          · kernel_rfl
          · exact fun _ _ _ _ h => h
          apply Exists.intro
          apply And.intro
          · apply yr_run; rfl; intro w' hw'; go_simp; (try with_reducible rfl)
          simp only [Act.put, List.setIfInBounds_toArray, List.set_cons_zero, List.set_cons_succ]
          apply wpR_next 4 (some 21)
          · simp only [List.getElem?_toArray, List.getElem?_cons_succ, List.getElem?_cons_zero]; exact rfl
          · rfl
          · kernel_rfl
          · kernel_rfl
          · kernel_rfl
          · exact fun _ _ _ _ h => h
          apply Exists.intro
          apply And.intro
          · apply yr_run; rfl; intro w' hw'; go_simp; (try with_reducible rfl)
          simp only [Act.put, List.setIfInBounds_toArray, List.set_cons_zero, List.set_cons_succ]
          apply wpR_next 5 (some 22)
          · simp only [List.getElem?_toArray, List.getElem?_cons_succ, List.getElem?_cons_zero]; exact rfl
          · rfl
          · kernel_rfl
          · kernel_rfl
          · kernel_rfl
          · exact fun _ _ _ _ h => h
          apply Exists.intro
          apply And.intro
          · apply yr_run; rfl; intro w' hw'; go_simp; (try with_reducible rfl)
          simp only [Act.put, List.setIfInBounds_toArray, List.set_cons_zero, List.set_cons_succ]
          apply wpR_next 6 (some 23)
          · simp only [List.getElem?_toArray, List.getElem?_cons_succ, List.getElem?_cons_zero]; exact rfl
          · rfl
          · kernel_rfl
          · kernel_rfl
          · kernel_rfl
          · exact fun _ _ _ _ h => h
          apply Exists.intro
          apply And.intro
          · apply yr_run; rfl; intro w' hw'; go_simp; (try with_reducible rfl)
          simp only [Act.put, List.setIfInBounds_toArray, List.set_cons_zero, List.set_cons_succ]
          apply wpR_next 7 (some 24)
          · simp only [List.getElem?_toArray, List.getElem?_cons_succ, List.getElem?_cons_zero]; exact rfl
          · rfl
          · kernel_rfl
          · kernel_rfl
          · kernel_rfl
          · exact fun _ _ _ _ h => h
          apply Exists.intro
          apply And.intro
          · apply yr_run; rfl; intro w' hw'; go_simp; (try with_reducible rfl)
          simp only [Act.put, List.setIfInBounds_toArray, List.set_cons_zero, List.set_cons_succ]
          apply wpR_next 8 (some 25)
          · simp only [List.getElem?_toArray, List.getElem?_cons_succ, List.getElem?_cons_zero]; exact rfl
          · rfl
          · kernel_rfl
          · kernel_rfl
          · kernel_rfl
          · exact fun _ _ _ _ h => h
          apply Exists.intro
          apply And.intro
          · apply yr_run; rfl; intro w' hw'; go_simp; (try with_reducible rfl)
          simp only [Act.put, List.setIfInBounds_toArray, List.set_cons_zero, List.set_cons_succ]
          refine wpR_done (by kernel_rfl) ?_ _
          intro W5 hw5
          have HB5 : RowKit.Hid (Below w.heap.size w W5) := Lib.hid (bel_bl HB.out (Ext.trans ((Below.refl _ _).drew) hw5))
          clear hw5 ld1 ld2 HB
          go_wp2
          go_ret
          exact ⟨_, rfl, HB5.out⟩
      · obtain rfl : j = n1 := by omega
        go_wp2
        go_ret
        exact ⟨_, rfl, HB.out⟩
  · have t0 : ((n1 : Int) == (n2 : Int)) = false := beq_eq_false_iff_ne.2 (by omega)
    go_enter Try.func18, Try.ntmps18
    go_wp2
    go_ret
    exact ⟨_, rfl, Below.refl _ _⟩
/-- A round's beginning. -/
def BdIn (w : World) (g win bm k : Nat) (wr : World) : Prop := ∃ (got n : Nat) (D : DataW Value) (HL : List HE), RvIn w.heap.size wr g win got bm n D HL ∧ Below w.heap.size w wr ∧ got ≤ 65 * k ∧ n ≤ k ∧ ∀ e ∈ HL, got + 1 < e.1
theorem BdIn.took {w wr w4 w5 : World} {g win bm k got n got' n' c : Nat} {D D' : DataW Value} {HL HL' T : List HE} {x err : Int} {L : List Nat} {A : Option Addr} (h : RvIn w.heap.size wr g win got bm n D HL) (hb : Below w.heap.size w wr) (hg : got ≤ 65 * k) (hn : n ≤ k) (hl : ∀ e ∈ HL, got + 1 < e.1) (hwin : win ≤ 64)
    (hw4 : Below wr.heap.size wr w4) (hT : TookIn w.heap.size w4 g win got bm n HL x L w5 err T A c got' n' D' HL') : BdIn w g win bm (k + 1) w5 := by
  have h1 := hT.rel.len
  have h2 := h.count
  refine ⟨got', n', D', HL', hT.rv, (bel_bl hb hw4).trans ((h.below hw4).far hT.kept (Nat.le_trans hb.size hw4.size)), by omega, by have := hT.nle; omega, hT.rel.left h.rise hl⟩
set_option maxRecDepth 100000 in
set_option maxHeartbeats 8000000 in
theorem law_bounds (x : Int) (A : Option Addr) (n c : Nat) (xs : List Int) (w : World) (h : RdS w w.heap.size 1 A n c (rowsV intC xs)) (hn : n ≤ maxLen) :
    Calls Try.prog 7 #[.int .i64 x, .slice A n c] w fun e w' => e = .returned (.bool true) ∧ Below w.heap.size w w' := by
  have hl := h.rlen intC_len (by decide)
  unfold maxLen at hn
  obtain ⟨v15, hv15, e15⟩ := and15_ x
  obtain ⟨win, gwin⟩ : ∃ win : Nat, win = 1 + v15 := ⟨_, rfl⟩
  have hw1 : 1 ≤ win := by omega
  have hw2 : win ≤ 16 := by omega
  have a1 : (1 : Int) + (v15 : Int) = (win : Int) := by omega
  have a3 : IntKind.i64.wrap (win : Int) = (win : Int) := IntWalk.i64_in _ (by omega)
  have HR := Lib.hid h
  have Hl := Lib.hid hl
  clear h hl gwin hv15
  go_enter Try.func7, Try.ntmps7
  go_wp2_with fail
  refine (shown17 _).mono ?_
  rintro e w1 ⟨rfl, hb1⟩
  have HB1 := Lib.hid hb1
  clear hb1
  go_wp2_with fail
  clear a1 a3 e15
  refine (rv_new (win : Int) w1).mono ?_
  rintro e w2 ⟨g, win', bm, rfl, hwin, hS, hb2⟩
  obtain rfl : win' = win := by omega
  have HA0 : RowKit.Hid (BdIn w g win' bm 0 w2) := Lib.hid ⟨0, 0, _, [], hS.lower HB1.out.size, bel_bl HB1.out hb2, Nat.le_refl _, Nat.le_refl _, fun e he => (by cases he)⟩
  clear hwin hS hb2 HB1
  obtain ⟨win, gw⟩ : ∃ z, win' = z := ⟨_, rfl⟩
  rw [gw] at HA0 hw1 hw2 ⊢
  clear gw
  go_wp2
  go_loopw [8] (fun si wr => ∃ k : Nat, k ≤ 80 ∧ si = .int .i64 k ∧ RowKit.Hid (BdIn w g win bm k wr)) (fun si _ => 80 - (intOf si).toNat)
  case atStart => exact ⟨0, by omega, rfl, HA0⟩
  case round =>
    clear HA0
    obtain ⟨k, hk, rfl, HA⟩ := hrel
    by_cases hlt : k < n ∧ k < 80
    · obtain ⟨hkn, hk80⟩ := hlt
      have t1 : decide (k < n) = true := decide_eq_true hkn
      have t2 : decide ((k : Int) < 80) = true := decide_eq_true (by omega)
      obtain ⟨wo, gwo⟩ : ∃ z, wr = z := ⟨_, rfl⟩
      rw [gwo] at HA ⊢
      clear gwo
      obtain ⟨got, nm, D, HL, hR, hB, hg, hnm, hleft⟩ := HA.out
      obtain ⟨v, hv⟩ : ∃ v, xs[k]? = some v := ⟨_, List.getElem?_eq_getElem (by have := Hl.out; omega)⟩
      obtain ⟨bb, off, rfl, hbB, hpl⟩ := introw HR.out (by omega)
      have lc := (hB.cell (p := ⟨bb, off + k, none⟩) hbB).trans (hpl k v hv)
      obtain ⟨r, gr⟩ : ∃ r, v.tmod 40 = r := ⟨_, rfl⟩
      have hr1 : r < 40 := by rw [← gr]; exact Int.tmod_lt_of_pos _ (by decide)
      have hr2 : -40 < r := by rw [← gr]; exact Int.lt_tmod_of_pos _ (by decide)
      have hwr : IntKind.i64.wrap r = r := IntWalk.i64_in _ (by omega)
      have hxr : (Lit.int .i64 r).wf = true := wf_i64 (by omega) (by omega)
      have HRv := Lib.hid hR
      have HB := Lib.hid hB
      have Hleft := Lib.hid hleft
      have hcnt := hR.count
      clear hv hpl hbB hR hB hleft HA
      go_wp2_with fail
      refine (rv_got wo HRv.out).mono ?_
      rintro e w2 ⟨rfl, hb2⟩
      have HRv2 := Lib.hid (HRv.out.below hb2)
      have HB2 : RowKit.Hid (Below w.heap.size w w2) := Lib.hid (bel_bl HB.out hb2)
      clear hb2 lc gr hwr HRv HB
      go_wp2_with fail
      refine (rv_held w2 HRv2.out (by omega)).mono ?_
      rintro e w3 ⟨A3, c3, rfl, hrow3, hnew3, hb3⟩
      have HFA : RowKit.Hid (∀ a, A3 = some a → 0 < HL.length → ¬ (a.block = g ∨ a.block = bm)) := Lib.hid (fun a ha _ e => by have h1 := hnew3 a ha; have h2 := HRv2.out.box.lt; have h3 := HRv2.out.map.lt; omega)
      clear hnew3
      have HRv3 := Lib.hid (HRv2.out.below hb3)
      have HB3 : RowKit.Hid (Below w.heap.size w w3) := Lib.hid (bel_bl HB2.out hb3)
      have HW3 := Lib.hid hrow3
      obtain ⟨N, gN⟩ : ∃ z, HL.length = z := ⟨_, rfl⟩
      rw [gN] at HW3 HFA hcnt ⊢
      have GN := Lib.hid gN
      clear hrow3 hb3 HRv2 HB2 gN
      go_wp2
      go_loopw [12, 13] (fun st sk wr => ∃ (j : Nat) (tb : Bool), j ≤ N ∧ sk = .int .i64 j ∧ st = .bool tb ∧ RowKit.Hid (tb = true ↔ ∃ y ∈ HL.take j, (y.1 : Int) = r) ∧ wr = w3) (fun _ sk _ => N - (intOf sk).toNat)
      case atStart => exact ⟨0, false, Nat.zero_le _, rfl, rfl, Lib.hid (by simp), rfl⟩
      case round =>
        obtain ⟨j, tb, hj, rfl, rfl, HT, hwr⟩ := hrel
        subst hwr
        by_cases hjn : j < N
        · obtain ⟨y, hy⟩ : ∃ y, HL[j]? = some y := ⟨_, List.getElem?_eq_getElem (by have := GN.out; omega)⟩
          obtain ⟨b3, o3, rfl, hb3, hp3⟩ := introw HW3.out (by omega)
          have l3 := hp3 j (y.1 : Int) (by simp [nums17, hy])
          have htk := take_snoc_ _ _ _ hy
          obtain ⟨q, gq⟩ : ∃ q, ((y.1 : Int) == r) = q := ⟨_, rfl⟩
          have HT' : RowKit.Hid ((tb || q) = true ↔ ∃ y ∈ HL.take (j + 1), (y.1 : Int) = r) := Lib.hid (by
            rw [htk, Bool.or_eq_true, HT.out, ← gq, beq_iff_eq]
            constructor
            · rintro (⟨z, hz, h⟩ | h)
              · exact ⟨z, List.mem_append.2 (.inl hz), h⟩
              · exact ⟨y, by simp, h⟩
            · rintro ⟨z, hz, h⟩
              rcases List.mem_append.1 hz with hz | hz
              · exact .inl ⟨z, hz, h⟩
              · obtain rfl : z = y := by simpa using hz
                exact .inr h)
          clear hp3 htk hb3 hy
          cases tb with
          | true =>
            go_wp2
            go_roundw
            case rel => exact ⟨j + 1, true, by omega, by go_num, rfl, Lib.hid (by have := HT'.out; rwa [Bool.true_or] at this), trivial⟩
            case measure => simp [intOf]; omega
          | false =>
            go_wp2
            go_roundw
            case rel => exact ⟨j + 1, q, by omega, by go_num, rfl, Lib.hid (by have := HT'.out; rwa [Bool.false_or] at this), trivial⟩
            case measure => simp [intOf]; omega
        · obtain rfl : N = j := by omega
          have hT : tb = true ↔ ∃ y ∈ HL, (y.1 : Int) = r := by
            have := HT.out
            rw [← GN.out, List.take_length] at this
            exact this
          have HT2 := Lib.hid hT
          clear HT hT
          obtain ⟨mb, gmb⟩ : ∃ mb, decide ((got : Int) < r ∧ r ≤ (got : Int) + (win : Int) ∧ tb = false) = mb := ⟨_, rfl⟩
          have GM := Lib.hid gmb
          have hwa : IntKind.i64.wrap ((got : Int) + (win : Int)) = (got : Int) + (win : Int) := IntWalk.i64_in _ (by omega)
          clear gmb
          go_upto_region 17 with fail
          go_cut [14] (fun sm z => sm = .bool mb ∧ z = wr)
          case first =>
            by_cases h1 : (got : Int) < r
            · have d1 : decide ((got : Int) < r) = true := decide_eq_true h1
              by_cases h2 : r ≤ (got : Int) + (win : Int)
              · have d2 : decide (r ≤ (got : Int) + (win : Int)) = true := decide_eq_true h2
                cases tb with
                | true =>
                  have hm : mb = false := by rw [← GM.out]; exact decide_eq_false (fun h => by cases h.2.2)
                  go_wp2_with fail
                  go_meet
                  exact ⟨by rw [hm], rfl⟩
                | false =>
                  have hm : mb = true := by rw [← GM.out]; exact decide_eq_true ⟨h1, h2, rfl⟩
                  go_wp2_with fail
                  go_meet
                  exact ⟨by rw [hm], rfl⟩
              · have d2 : decide (r ≤ (got : Int) + (win : Int)) = false := decide_eq_false h2
                have hm : mb = false := by rw [← GM.out]; exact decide_eq_false (fun h => h2 h.2.1)
                go_wp2_with fail
                go_meet
                exact ⟨by rw [hm], rfl⟩
            · have d1 : decide ((got : Int) < r) = false := decide_eq_false h1
              have hm : mb = false := by rw [← GM.out]; exact decide_eq_false (fun h => h1 h.1)
              go_wp2_with fail
              go_meet
              exact ⟨by rw [hm], rfl⟩
          case rest =>
            obtain ⟨rfl, hcz⟩ := hcut
            subst hcz
            have HTk := Lib.hid (take_any (wc.alloc (.cells #[.int .u8 1] 5)) (HRv3.out.below (below1 wc (.cells #[.int .u8 1] 5))) (by omega) (by omega) (Nat.le_trans HB3.out.size (below1 wc (.cells #[.int .u8 1] 5)).size) (by omega) r hxr (some ⟨wc.heap.size, 0, none⟩) 1 [1] (RdS.of_whole (size := 1) (n := 1) (Whole.new_ wc 5 [.int .u8 1]) rfl) (by decide) (by decide))
            clear hwa
            go_wp2_with fail
            refine HTk.out.mono ?_
            rintro e w5 ⟨err, T, A5, c5, got', n', D', HL', rfl, hT⟩
            have HBd := Lib.hid (BdIn.took HRv3.out HB3.out hg hnm Hleft.out (by omega) (below1 wc (.cells #[.int .u8 1] 5)) hT)
            have HTo := Lib.hid hT
            have herr : (mb = true ∧ err = 0) ∨ (mb = false ∧ err = 22 ∧ got' = got ∧ HL' = HL) := by
              rcases hT.rel with ⟨h1, h2, h3, h4, h5⟩ | ⟨h1, s, sl, h2, h3, h4, h5, -⟩
              · refine .inr ⟨?_, h1, h3, h4⟩
                rw [← GM.out]
                refine decide_eq_false (fun h => ?_)
                rcases h5 with h5 | h5 | h5
                · have := HT2.out.2 h5; rw [h.2.2] at this; cases this
                · omega
                · omega
              · refine .inl ⟨?_, h1⟩
                rw [← GM.out]
                refine decide_eq_true ⟨by omega, by omega, ?_⟩
                cases tb with
                | false => rfl
                | true =>
                  obtain ⟨y, hy, hyr⟩ := HT2.out.1 rfl
                  exact absurd (by omega) (h5 y hy)
            have HEr := Lib.hid herr
            have Hgt : RowKit.Hid (∀ e ∈ HL', got' + 1 < e.1) := Lib.hid (hT.rel.left HRv3.out.rise Hleft.out)
            have hgb : got' ≤ 10000 := by have h1 := hT.rel.len.1; have h2 := hT.rel.len.2; have h3 := GN.out; omega
            have hTl : T.length ≤ 100 := by have h1 := hT.rel.len.2; have h2 := GN.out; omega
            have hlen' : HL'.length ≤ 100 := by have h1 := hT.rel.len.2; have h2 := GN.out; omega
            have hn'' := hT.nle
            have hHL := Lib.hid (rv_held w5 hT.rv (by omega))
            have HW5 : RowKit.Hid (RdS w5 w5.heap.size 1 A3 N c3 (rowsV intC (nums17 HL))) := Lib.hid (by
              exact (HW3.out.al (.cells #[.int .u8 1] 5)).kept_ne hT.kept (fun a ha hn e => HFA.out a ha hn e))
            clear hT herr HTk HB3 HRv3
            go_upto_region 19 with fail
            go_cut [17] (fun ss z => ∃ sb : Bool, ss = .bool sb ∧ (mb = false → sb = true) ∧ RowKit.Hid (RvIn w.heap.size z g win got' bm n' D' HL' ∧ BdIn w g win bm (k + 1) z))
            case first =>
              go_wp2_with fail
              refine hHL.out.mono ?_
              rintro e w6 ⟨A6, c6, rfl, hrow6, -, hb6⟩
              have HI : RowKit.Hid (Calls Try.prog 18 #[.slice A3 N c3, .slice A6 HL'.length c6] w6 fun e w' => ∃ sb, e = .returned (.bool sb) ∧ (mb = false → sb = true) ∧ Below w6.heap.size w6 w') := Lib.hid (by
                rcases HEr.out with ⟨hm, -⟩ | ⟨hm, -, -, rfl⟩
                · exact (ints_any A3 A6 N HL'.length c3 c6 _ _ w6 (HW5.out.bl hb6) hrow6 (by omega) (by omega)).mono fun e w' ⟨tb, h1, h2⟩ => ⟨tb, h1, fun h => (by rw [hm] at h; cases h), h2⟩
                · have hq := ints_eq A3 A6 N c3 c6 (nums17 HL') w6 (HW5.out.bl hb6) (by rw [GN.out] at hrow6; exact hrow6) (by omega)
                  rw [GN.out]
                  exact hq.mono fun e w' ⟨h1, h2⟩ => ⟨true, h1, fun _ => rfl, h2⟩)
              have HRv6 := Lib.hid (HTo.out.rv.below hb6)
              have HBd6 : RowKit.Hid (Below w5.heap.size w5 w6) := Lib.hid hb6
              clear hrow6 hb6 hHL
              go_wp2_with fail
              refine HI.out.mono ?_
              rintro e w7 ⟨sb, rfl, hsb, hb7⟩
              have HZ : RowKit.Hid (RvIn w.heap.size w7 g win got' bm n' D' HL' ∧ BdIn w g win bm (k + 1) w7) := Lib.hid ⟨HRv6.out.below hb7, by
                obtain ⟨q1, q2, q3, q4, q5, q6, q7⟩ := HBd.out
                exact ⟨q1, q2, q3, q4, q5.below (HBd6.out.trans (hb7.mono HBd6.out.size)), bel_bl q6 (HBd6.out.trans (hb7.mono HBd6.out.size)), q7⟩⟩
              clear hb7
              go_wp2_with fail
              go_meet
              exact ⟨sb, rfl, hsb, HZ⟩
            case rest =>
              obtain ⟨sb, rfl, hsb, HZ⟩ := hcut
              have Hsb := Lib.hid hsb
              clear hsb HBd HTo hHL HW5
              go_upto_region 20 with fail
              go_cut [112] (fun v z => v = .bool false ∧ RowKit.Hid (RvIn w.heap.size z g win got' bm n' D' HL' ∧ BdIn w g win bm (k + 1) z))
              case first =>
                rcases HEr.out with ⟨rfl, rfl⟩ | ⟨rfl, rfl, hgg, -⟩
                · go_wp2_with fail
                  go_meet
                  exact ⟨rfl, HZ⟩
                · obtain rfl := Hsb.out rfl
                  go_wp2_with fail
                  refine (rv_got wc HZ.out.1).mono ?_
                  rintro e w8 ⟨rfl, hb8⟩
                  have HZ8 : RowKit.Hid (RvIn w.heap.size w8 g win got' bm n' D' HL' ∧ BdIn w g win bm (k + 1) w8) := Lib.hid ⟨HZ.out.1.below hb8, by
                    obtain ⟨q1, q2, q3, q4, q5, q6, q7⟩ := HZ.out.2
                    exact ⟨q1, q2, q3, q4, q5.below hb8, bel_bl q6 hb8, q7⟩⟩
                  clear hb8
                  have e9 : ((got' : Int) == (got : Int)) = true := by rw [hgg]; exact beq_self_eq_true _
                  have e10 : ((got' : Int) != (got : Int)) = false := by rw [bne, e9]; rfl
                  clear hgg
                  go_wp2_with fail
                  go_meet
                  exact ⟨rfl, HZ8⟩
              case rest =>
                obtain ⟨rfl, HZ2⟩ := hcut
                clear HZ
                obtain ⟨hR9, hBd9⟩ := HZ2.out
                have H9 := Lib.hid (rv_held wc hR9 (by omega))
                have HR9 := Lib.hid hR9
                have hc9 := hR9.count
                clear hR9 hBd9 HEr
                go_wp2_with fail
                refine H9.out.mono ?_
                rintro e w9 ⟨A9, c9, rfl, hrow9, -, hb9⟩
                have HW9 := Lib.hid hrow9
                have HR10 := Lib.hid (HR9.out.below hb9)
                have HZ9 : RowKit.Hid (BdIn w g win bm (k + 1) w9) := Lib.hid (by
                    obtain ⟨q1, q2, q3, q4, q5, q6, q7⟩ := HZ2.out.2
                    exact ⟨q1, q2, q3, q4, q5.below hb9, bel_bl q6 hb9, q7⟩)
                obtain ⟨M, gM⟩ : ∃ z, HL'.length = z := ⟨_, rfl⟩
                rw [gM] at HW9 hc9 ⊢
                have GMn := Lib.hid gM
                clear hrow9 hb9 H9 HR9 HZ2 gM
                go_wp2
                go_loopw [19] (fun sj wr => ∃ j : Nat, j ≤ M ∧ sj = .int .i64 j ∧ RowKit.Hid (Below w9.heap.size w9 wr)) (fun sj _ => M - (intOf sj).toNat)
                case atStart => exact ⟨0, Nat.zero_le _, rfl, Lib.hid (Below.refl _ _)⟩
                case round =>
                  obtain ⟨j, hj, rfl, HJ⟩ := hrel
                  by_cases hjm : j < M
                  · obtain ⟨y, hy⟩ : ∃ y, HL'[j]? = some y := ⟨_, List.getElem?_eq_getElem (by have := GMn.out; omega)⟩
                    obtain ⟨b3, o3, rfl, hb3, hp3⟩ := introw HW9.out (by omega)
                    have l3 := (HJ.out.cell (p := ⟨b3, o3 + j, none⟩) hb3).trans (hp3 j (y.1 : Int) (by simp [nums17, hy]))
                    have hy1 := Hgt.out y (List.mem_of_getElem? hy)
                    have hy2 := HR10.out.le y (List.mem_of_getElem? hy)
                    obtain ⟨Y, gY⟩ : ∃ Y, y.1 = Y := ⟨_, rfl⟩
                    rw [gY] at l3 hy1 hy2
                    have ld3 : ∀ w', Kept Nil_ wr.drew w' → w'.cell? ⟨b3, o3 + j, none⟩ = some (.int .i64 (Y : Int)) := fun w' hk => hk.nil_cell (show wr.drew.cell? ⟨b3, o3 + j, none⟩ = _ from l3)
                    have KB : ∀ {u v : World}, Kept Nil_ u v → Below u.heap.size u v := fun h => h.below (Nat.le_refl _) (fun _ _ h => h)
                    have HQ : RowKit.Hid (∀ w', Kept Nil_ wr.drew w' → Calls Try.prog 34 #[.pointer (some ⟨g, 0, none⟩)] w' fun e w'' => e = .returned (.int .i64 (got' : Int)) ∧ Below w'.heap.size w' w'') := Lib.hid (fun w' hk => rv_got w' ((HR10.out.below HJ.out).drew.below (KB hk)))
                    have u1 : IntKind.i64.wrap ((got' : Int) + 1) = (got' : Int) + 1 := IntWalk.i64_in _ (by omega)
                    have u2 : IntKind.i64.wrap ((got' : Int) + (win : Int)) = (got' : Int) + (win : Int) := IntWalk.i64_in _ (by omega)
                    have u3 : decide ((Y : Int) ≤ (got' : Int) + 1) = false := decide_eq_false (by omega)
                    have u4 : decide ((got' : Int) + (win : Int) < (Y : Int)) = false := decide_eq_false (by omega)
                    have u5 : ¬ (Y ≤ got' + 1) := by omega
                    have u6 : ¬ (got' + win < Y) := by omega
                    clear hy hp3 l3 gY KB hb3 hy1 hy2
                    go_upto_region 26 with fail
                    refine wp_region_reg (Nil_) (by kernel_rfl) ?_
                    apply wpR_next 0 (some 121)
                    · simp only [List.getElem?_toArray, List.getElem?_cons_succ, List.getElem?_cons_zero]; exact rfl
                    · rfl
                    · kernel_rfl
                    · kernel_rfl
                    · kernel_rfl
                    · exact fun _ _ _ _ h => h
                    apply Exists.intro
                    apply And.intro
                    · apply yr_run; rfl; intro w' hw'; go_simp; (try with_reducible rfl)
                    simp only [Act.put, List.setIfInBounds_toArray, List.set_cons_zero, List.set_cons_succ]
                    apply wpR_next 1 (some 122)
                    · simp only [List.getElem?_toArray, List.getElem?_cons_succ, List.getElem?_cons_zero]; exact rfl
                    · rfl
                    · kernel_rfl
                    · kernel_rfl
                    · kernel_rfl
                    · exact fun _ _ _ _ h => h
                    apply Exists.intro
                    apply And.intro
                    · apply yr_run; rfl; intro w' hw'; go_simp; (try with_reducible rfl)
                    simp only [Act.put, List.setIfInBounds_toArray, List.set_cons_zero, List.set_cons_succ]
                    apply wpR_next 2 (some 123)
                    · simp only [List.getElem?_toArray, List.getElem?_cons_succ, List.getElem?_cons_zero]; exact rfl
                    · rfl
                    · kernel_rfl
                    · kernel_rfl
                    · kernel_rfl
                    · exact fun _ _ _ _ h => h
                    apply Exists.intro
                    apply And.intro
                    · apply yr_run; rfl; intro w' hw'; go_simp; (try with_reducible rfl)
                    simp only [Act.put, List.setIfInBounds_toArray, List.set_cons_zero, List.set_cons_succ]
                    apply wpR_next 3 (some 124)
                    · simp only [List.getElem?_toArray, List.getElem?_cons_succ, List.getElem?_cons_zero]; exact rfl
                    · rfl
                    · kernel_rfl
                    · kernel_rfl
                    · kernel_rfl
                    · exact fun _ _ _ _ h => h
                    apply Exists.intro
                    apply And.intro
                    · apply yr_run; rfl; intro w' hw'; go_simp; (try with_reducible rfl)
                    simp only [Act.put, List.setIfInBounds_toArray, List.set_cons_zero, List.set_cons_succ]
                    apply wpR_next 4 (some 125)
                    · simp only [List.getElem?_toArray, List.getElem?_cons_succ, List.getElem?_cons_zero]; exact rfl
                    · rfl
                    · kernel_rfl
                    · kernel_rfl
                    · kernel_rfl
                    · exact fun _ _ _ _ h => h
                    apply Exists.intro
                    apply And.intro
                    · apply yr_run; rfl; intro w' hw'; go_simp; (try with_reducible rfl)
                    simp only [Act.put, List.setIfInBounds_toArray, List.set_cons_zero, List.set_cons_succ]
                    apply wpR_next 5 (some 126)
                    · simp only [List.getElem?_toArray, List.getElem?_cons_succ, List.getElem?_cons_zero]; exact rfl
                    · rfl
                    · kernel_rfl
                    · kernel_rfl
                    · kernel_rfl
                    · exact fun _ _ _ _ h => h
                    apply Exists.intro
                    apply And.intro
                    · apply yr_call; rfl; rotate_left; intro w' hw'; exact HQ.out w' hw'; intro w'; go_simp
                    simp only [Act.put, List.setIfInBounds_toArray, List.set_cons_zero, List.set_cons_succ]
                    apply wpR_next 6 (some 127)
                    · simp only [List.getElem?_toArray, List.getElem?_cons_succ, List.getElem?_cons_zero]; exact rfl
                    · rfl
                    · kernel_rfl
                    · kernel_rfl
                    · kernel_rfl
                    · exact fun _ _ _ _ h => h
                    apply Exists.intro
                    apply And.intro
                    · apply yr_run; rfl; intro w' hw'; go_simp; (try with_reducible rfl)
                    simp only [Act.put, List.setIfInBounds_toArray, List.set_cons_zero, List.set_cons_succ]
                    apply wpR_next 7 (some 128)
                    · simp only [List.getElem?_toArray, List.getElem?_cons_succ, List.getElem?_cons_zero]; exact rfl
                    · rfl
                    · kernel_rfl
                    · kernel_rfl
                    · kernel_rfl
                    · exact fun _ _ _ _ h => h
                    apply Exists.intro
                    apply And.intro
                    · apply yr_run; rfl; intro w' hw'; go_simp; (try with_reducible rfl)
                    simp only [Act.put, List.setIfInBounds_toArray, List.set_cons_zero, List.set_cons_succ]
                    apply wpR_next 8 (some 129)
                    · simp only [List.getElem?_toArray, List.getElem?_cons_succ, List.getElem?_cons_zero]; exact rfl
                    · rfl
                    · kernel_rfl
                    · kernel_rfl
                    · kernel_rfl
                    · exact fun _ _ _ _ h => h
                    apply Exists.intro
                    apply And.intro
                    · apply yr_run; rfl; intro w' hw'; go_simp; (try with_reducible rfl)
                    simp only [Act.put, List.setIfInBounds_toArray, List.set_cons_zero, List.set_cons_succ]
                    apply wpR_next 9 (some 130)
                    · simp only [List.getElem?_toArray, List.getElem?_cons_succ, List.getElem?_cons_zero]; exact rfl
                    · rfl
                    · kernel_rfl
                    · kernel_rfl
                    · kernel_rfl
                    · exact fun _ _ _ _ h => h
                    apply Exists.intro
                    apply And.intro
                    · apply yr_run; rfl; intro w' hw'; go_simp; (try with_reducible rfl)
                    simp only [Act.put, List.setIfInBounds_toArray, List.set_cons_zero, List.set_cons_succ]
                    apply wpR_next 10 (some 131)
                    · simp only [List.getElem?_toArray, List.getElem?_cons_succ, List.getElem?_cons_zero]; exact rfl
                    · rfl
                    · kernel_rfl
                    · kernel_rfl
                    · kernel_rfl
                    · exact fun _ _ _ _ h => h
                    apply Exists.intro
                    apply And.intro
                    · apply yr_run; rfl; intro w' hw'; go_simp; (try with_reducible rfl)
                    simp only [Act.put, List.setIfInBounds_toArray, List.set_cons_zero, List.set_cons_succ]
                    apply wpR_next 11 (some 132)
                    · simp only [List.getElem?_toArray, List.getElem?_cons_succ, List.getElem?_cons_zero]; exact rfl
                    · rfl
                    · kernel_rfl
                    · kernel_rfl
                    · kernel_rfl
                    · exact fun _ _ _ _ h => h
                    apply Exists.intro
                    apply And.intro
                    · apply yr_run; rfl; intro w' hw'; go_simp; (try with_reducible rfl)
                    simp only [Act.put, List.setIfInBounds_toArray, List.set_cons_zero, List.set_cons_succ]
                    apply wpR_next 12 (some 133)
                    · simp only [List.getElem?_toArray, List.getElem?_cons_succ, List.getElem?_cons_zero]; exact rfl
                    · rfl
                    · kernel_rfl
                    · kernel_rfl
                    · kernel_rfl
                    · exact fun _ _ _ _ h => h
                    apply Exists.intro
                    apply And.intro
                    · apply yr_run; rfl; intro w' hw'; go_simp; (try with_reducible rfl)
                    simp only [Act.put, List.setIfInBounds_toArray, List.set_cons_zero, List.set_cons_succ]
                    apply wpR_next 13 (some 134)
                    · simp only [List.getElem?_toArray, List.getElem?_cons_succ, List.getElem?_cons_zero]; exact rfl
                    · rfl
                    · kernel_rfl
                    · kernel_rfl
                    · kernel_rfl
                    · exact fun _ _ _ _ h => h
                    apply Exists.intro
                    apply And.intro
                    · apply yr_run; rfl; intro w' hw'; go_simp; (try with_reducible rfl)
                    simp only [Act.put, List.setIfInBounds_toArray, List.set_cons_zero, List.set_cons_succ]
                    apply wpR_next 14 (some 135)
                    · simp only [List.getElem?_toArray, List.getElem?_cons_succ, List.getElem?_cons_zero]; exact rfl
                    · rfl
                    · kernel_rfl
                    · kernel_rfl
                    · kernel_rfl
                    · exact fun _ _ _ _ h => h
                    apply Exists.intro
                    apply And.intro
                    · apply yr_call; rfl; rotate_left; intro w' hw'; exact HQ.out w' hw'; intro w'; go_simp
                    simp only [Act.put, List.setIfInBounds_toArray, List.set_cons_zero, List.set_cons_succ]
                    apply wpR_next 15 (some 136)
                    · simp only [List.getElem?_toArray, List.getElem?_cons_succ, List.getElem?_cons_zero]; exact rfl
                    · rfl
                    · kernel_rfl
                    · kernel_rfl
                    · kernel_rfl
                    · exact fun _ _ _ _ h => h
                    apply Exists.intro
                    apply And.intro
                    · apply yr_run; rfl; intro w' hw'; go_simp; (try with_reducible rfl)
                    simp only [Act.put, List.setIfInBounds_toArray, List.set_cons_zero, List.set_cons_succ]
                    apply wpR_next 16 (some 137)
                    · simp only [List.getElem?_toArray, List.getElem?_cons_succ, List.getElem?_cons_zero]; exact rfl
                    · rfl
                    · kernel_rfl
                    · kernel_rfl
                    · kernel_rfl
                    · exact fun _ _ _ _ h => h
                    apply Exists.intro
                    apply And.intro
                    · apply yr_run; rfl; intro w' hw'; go_simp; (try with_reducible rfl)
                    simp only [Act.put, List.setIfInBounds_toArray, List.set_cons_zero, List.set_cons_succ]
                    apply wpR_next 17 (some 138)
                    · simp only [List.getElem?_toArray, List.getElem?_cons_succ, List.getElem?_cons_zero]; exact rfl
                    · rfl
                    · kernel_rfl
                    · kernel_rfl
                    · kernel_rfl
                    · exact fun _ _ _ _ h => h
                    apply Exists.intro
                    apply And.intro
                    · apply yr_run; rfl; intro w' hw'; go_simp; (try with_reducible rfl)
                    simp only [Act.put, List.setIfInBounds_toArray, List.set_cons_zero, List.set_cons_succ]
                    apply wpR_next 18 (some 139)
                    · simp only [List.getElem?_toArray, List.getElem?_cons_succ, List.getElem?_cons_zero]; exact rfl
                    · rfl
                    · kernel_rfl
                    · kernel_rfl
                    · kernel_rfl
                    · exact fun _ _ _ _ h => h
                    apply Exists.intro
                    apply And.intro
                    · apply yr_run; rfl; intro w' hw'; go_simp; (try with_reducible rfl)
                    simp only [Act.put, List.setIfInBounds_toArray, List.set_cons_zero, List.set_cons_succ]
                    refine wpR_done (by kernel_rfl) ?_ _
                    intro Wz hwz
                    have HJz : RowKit.Hid (Below w9.heap.size w9 Wz) := Lib.hid (HJ.out.trans ((Ext.trans ((Below.refl _ _).drew) hwz).mono HJ.out.size))
                    clear hwz ld3 HQ u1 u2 u3 u4 u5 u6
                    go_wp2
                    go_roundw
                    case rel => exact ⟨j + 1, by omega, by go_num, HJz⟩
                    case measure => simp [intOf]; omega
                  · obtain rfl : j = M := by omega
                    go_wp2
                    go_roundw
                    case rel => exact ⟨k + 1, by omega, by go_num, Lib.hid (by
                      obtain ⟨q1, q2, q3, q4, q5, q6, q7⟩ := HZ9.out
                      exact ⟨q1, q2, q3, q4, q5.below HJ.out, bel_bl q6 HJ.out, q7⟩)⟩
                    case measure => simp [intOf]; omega
    · have Hlt := Lib.hid hlt
      clear hlt
      by_cases h4 : k < n
      · have t1 : decide (k < n) = true := decide_eq_true h4
        have t2 : ¬ ((k : Int) < 80) := by have := Hlt.out; omega
        go_wp2_with fail
        go_ret
        exact ⟨rfl, by obtain ⟨_, _, _, _, _, hB, -⟩ := HA.out; exact hB⟩
      · have t1 : decide (k < n) = false := decide_eq_false h4
        go_wp2_with fail
        go_ret
        exact ⟨rfl, by obtain ⟨_, _, _, _, _, hB, -⟩ := HA.out; exact hB⟩
end Go.Proofs.Ythfngmlnmpbcpaa
