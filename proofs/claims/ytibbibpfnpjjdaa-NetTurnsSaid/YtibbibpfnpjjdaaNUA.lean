/- 'NetTurns' answers true for any frame, whichever byte.
   No condition beyond the row's own. -/
import Derived.Test.YtibbibpfnpjjdaaNAI
import Derived.Deep.DeepCutAuto
import Derived.Deep.CutBlock
import Derived.Test.YtibbibpfnpjjdaaRows

/- The law of the calls. -/
namespace Go.Proofs.Ytibbibpfnpjjdaa
open Go.RowKit
set_option linter.unusedSimpArgs false
set_option linter.unusedVariables false

end Go.Proofs.Ytibbibpfnpjjdaa

/- The law of the counts. -/
namespace Go.Proofs.Ytibbibpfnpjjdaa
open Go.RowKit
set_option linter.unusedSimpArgs false
set_option linter.unusedVariables false

end Go.Proofs.Ytibbibpfnpjjdaa

/- The law of the turned bits. -/
namespace Go.Proofs.Ytibbibpfnpjjdaa
open Go.RowKit
set_option linter.unusedSimpArgs false
set_option linter.unusedVariables false

theorem NtIn.hsz {B : Nat} {w : World} {g t : Nat} {go : Option Nat} {A : Option Addr} {c : Nat} {es : List Sl} {s : NtS} (h : NtIn B w g t go A c es s) : B ≤ w.heap.size := by have := h.lo; have := h.box.lt; omega
/-- One frame on its way two times. -/
def twoS (P : List Nat) : NtS := ([P, P], [1, 0, 0, 0, 0, 1])
theorem one_may {f : FrT × List Nat} (h : mayF f.1 f.2.length = 0) : sendN zeroN [f] = ([putF f.1 f.2], [1, 0, 0, 0, 0, 0]) ∧ sentN zeroN [f] = 1 := by
  constructor
  · show send1 zeroN f = _
    unfold send1
    rw [if_pos h, if_pos (by decide)]
    rfl
  · show sends zeroN f + 0 = 1
    unfold sends
    rw [if_pos ⟨h, by decide⟩]
theorem one_not {f : FrT × List Nat} (h : mayF f.1 f.2.length ≠ 0) : sentN zeroN [f] = 0 := by
  show sends zeroN f + 0 = 0
  unfold sends
  rw [if_neg (fun q => h q.1)]
theorem one_ok {f : FrT × List Nat} (h : mayF f.1 f.2.length = 0) (hb : ∀ b ∈ f.2, b < 256) : NtOk ([putF f.1 f.2], [1, 0, 0, 0, 0, 0]) := by
  rw [← (one_may h).1]
  exact NtOk.sends _ _ zeroN_ok (fun g hg b hb2 => by rw [List.mem_singleton.1 hg] at hb2; exact hb b hb2)
theorem two_doub (P : List Nat) : doubN ([P], [1, 0, 0, 0, 0, 0]) 0 = twoS P ∧ doubE ([P], [1, 0, 0, 0, 0, 0]) 0 = 0 := ⟨rfl, rfl⟩
theorem two_at {f : FrT × List Nat} (h : mayF f.1 f.2.length = 0) (Q : List Nat) (T : List Int) : atR ([Q, putF f.1 f.2], T) 1 = (f.1, f.2, 0) := by
  unfold atR
  rw [if_pos (show hasN ([Q, putF f.1 f.2], T) 1 = true from rfl)]
  exact take_of_put h
theorem two_at0 {f : FrT × List Nat} (h : mayF f.1 f.2.length = 0) (Q : List Nat) (T : List Int) : atR ([putF f.1 f.2, Q], T) 0 = (f.1, f.2, 0) := by
  unfold atR
  rw [if_pos (show hasN ([putF f.1 f.2, Q], T) 0 = true from rfl)]
  exact take_of_put h
theorem two_bad {P : List Nat} (h : okF P = false) (Q : List Nat) (T : List Int) : atR ([P, Q], T) 0 = (zeroF, [], 2) := by
  unfold atR takeR
  rw [if_pos (show hasN ([P, Q], T) 0 = true from rfl), if_neg (by rw [show atN ([P, Q], T) 0 = P from rfl, h]; decide)]
theorem two_turn (P Q : List Nat) (T : List Int) (i : Nat) (hi : i < P.length) : turnE ([P, Q], T) 0 (i : Int) = 0 ∧ turnN ([P, Q], T) 0 (i : Int) = ([P.set i (flip1 (P.getD i 0)), Q], T) := by
  have hc : hasN ([P, Q], T) 0 = true ∧ (0 : Int) ≤ (i : Int) ∧ (i : Int) < (atN ([P, Q], T) 0).length := ⟨rfl, by omega, by show (i : Int) < (P.length : Int); omega⟩
  unfold turnE turnN
  rw [if_pos hc, if_pos hc, Int.toNat_natCast]
  exact ⟨rfl, rfl⟩
theorem two_turn_no (P Q : List Nat) (T : List Int) (a : Int) (ha : ¬ (0 ≤ a ∧ a < P.length)) : turnE ([P, Q], T) 0 a = 1 ∧ turnN ([P, Q], T) 0 a = ([P, Q], T) := by
  have hc : ¬ (hasN ([P, Q], T) 0 = true ∧ 0 ≤ a ∧ a < (atN ([P, Q], T) 0).length) := fun q => ha ⟨q.2.1, q.2.2⟩
  unfold turnE turnN
  rw [if_neg hc, if_neg hc]
  exact ⟨rfl, rfl⟩
set_option maxRecDepth 100000 in
set_option maxHeartbeats 8000000 in
theorem turns_any (x : Fe) (a : Int) (w : World) (h : FeOk w x) (hlen : x.1.2.length ≤ maxLen) :
    Calls Try.prog 6 #[.agg (feC x).toArray, .int .i64 a] w fun e w' => e = .returned (.bool true) ∧ Below w.heap.size w w' := by
  have HX0 : RowKit.Hid (Whole (w.alloc (.cells (feC x).toArray 34)) w.heap.size 34 (feC x)) := Lib.hid (Whole.new_ _ _ _)
  have HR0 := Lib.hid (h.rds.al (.cells (feC x).toArray 34))
  have HRl : RowKit.Hid (∀ a, x.2.1 = some a → 0 < x.1.2.length → a.block < w.heap.size) := Lib.hid h.rds.low
  have HBy := Lib.hid h.bytes
  have HB0 := Lib.hid (below1 w (.cells (feC x).toArray 34))
  clear h
  go_enter Try.func6, Try.ntmps6
  go_upto_region 1 with fail
  obtain ⟨w0, gw0⟩ : ∃ z, w.alloc (.cells (feC x).toArray 34) = z := ⟨_, rfl⟩
  obtain ⟨b2, gb2⟩ : ∃ z, w.heap.size = z := ⟨_, rfl⟩
  have Gb2 := Lib.hid gb2
  rw [gw0] at HX0 HR0 HB0 ⊢
  rw [gb2] at HX0 HRl ⊢
  clear gw0 gb2
  go_wp2_with fail
  refine (shown21 w0).mono ?_
  rintro e w1 ⟨rfl, hb1⟩
  have HB1 := Lib.hid hb1
  clear hb1
  go_wp2_with fail
  refine (nt_new w1).mono ?_
  rintro e w2 ⟨g, t, rfl, hW, hT, hg, ht, -, hb⟩
  have HN2 := Lib.hid ((NtIn.new hW hT hg ht).lo_ HB1.out.size)
  have HB2 := Lib.hid (bel_bl HB1.out hb)
  clear hW hT hg ht hb HB1
  have HX2 := Lib.hid (HX0.out.below HB2.out)
  have HR2 := Lib.hid (HR0.out.bl HB2.out)
  have HLb : RowKit.Hid (b2 < w0.heap.size) := Lib.hid HX0.out.lt
  obtain ⟨B, gB⟩ : ∃ z, w0.heap.size = z := ⟨_, rfl⟩
  have HBw : RowKit.Hid (w.heap.size ≤ B) := Lib.hid (gB ▸ HB0.out.size)
  rw [gB] at HN2 HB2 HLb
  have HBt : RowKit.Hid (Below w.heap.size w w2) := Lib.hid (HB0.out.trans (HB2.out.mono HBw.out))
  clear gB HX0 HR0 HB0 HB2
  -- the law's few of one
  go_upto_region 5 with fail
  refine wp_region_lit ?_
  refine wl_load (some 25) rfl (by rfl) 34 (.tmp 2) rfl b2 rfl 34 (feC x) _ HX2.out Try.underlying34 rfl (by kernel_rfl) ?_
  simp only [Act.put, List.setIfInBounds_toArray, List.set_cons_zero, List.set_cons_succ]
  refine wl_buildSlice (some 26) rfl (by rfl) 35 34 1 #[(0, .tmp 25)] rfl Try.underlying35 (feC x).toArray (by kernel_rfl) ?_
  simp only [Act.put, List.setIfInBounds_toArray, List.set_cons_zero, List.set_cons_succ]
  have HL3 : RowKit.Hid (FesIn (w2.alloc (.cells (feC x).toArray 34)) (some ⟨w2.heap.size, 0, none⟩) 1 1 [x]) := Lib.hid ⟨by rw [rowsFe1]; exact RdS.of_whole (Whole.new_ _ _ _) rfl, fun z hz => by rw [List.mem_singleton.1 hz]; exact ⟨HR2.out.al _, HBy.out⟩⟩
  have HX3 := Lib.hid (HX2.out.al (.cells (feC x).toArray 34))
  have HR3 := Lib.hid (HR2.out.al (.cells (feC x).toArray 34))
  have HN3 := Lib.hid (HN2.out.below (below1 w2 (.cells (feC x).toArray 34)))
  have HBt3 := Lib.hid (bel_al HBt.out (.cells (feC x).toArray 34))
  obtain ⟨w3, gw3⟩ : ∃ z, w2.alloc (.cells (feC x).toArray 34) = z := ⟨_, rfl⟩
  obtain ⟨g3, gg3⟩ : ∃ z, w2.heap.size = z := ⟨_, rfl⟩
  rw [gw3] at HL3 HX3 HR3 HN3 HBt3 ⊢
  rw [gg3] at HL3 ⊢
  clear gw3 gg3 HX2 HR2 HN2 HBt
  go_wp2_with fail
  refine (few21_any _ _ _ [x] w3 HL3.out (by decide)).mono ?_
  rintro e w4 ⟨A4, c4, rfl, ho4, hb4⟩
  obtain ⟨x', gx'⟩ : ∃ z, cutF x = z := ⟨_, rfl⟩
  have hfe : fewF [x] = [x'] := by rw [← gx']; rfl
  rw [hfe] at ho4 ⊢
  obtain ⟨g4, jk, rfl, hlo4, hW4, hcl4, hnc4, -, -⟩ := own_place ho4 (Nat.zero_lt_one)
  have hR4 : RdS w4 w4.heap.size 1 x'.2.1 x'.1.2.length x'.2.2 (rowsV f8 x'.1.2) := gx' ▸ (HR3.out.bl hb4).fewer8 100
  have hBy4 : ∀ b ∈ x'.1.2, b < 256 := gx' ▸ fun b hb => HBy.out b (List.mem_of_mem_take hb)
  have hx21 : x'.2.1 = x.2.1 := gx' ▸ rfl
  have hRl4 : ∀ a, x'.2.1 = some a → 0 < x'.1.2.length → a.block < b2 := fun a ha hp => HRl.out a (hx21 ▸ ha) (by
    rw [← gx'] at hp
    have hp : 0 < (x.1.2.take 100).length := hp
    rw [List.length_take] at hp; omega)
  have hlen' : x'.1.2.length ≤ 100 := by rw [← gx']; show (x.1.2.take 100).length ≤ 100; rw [List.length_take]; omega
  have HX4 := Lib.hid (HX3.out.below hb4)
  have HN4 := Lib.hid (HN3.out.below hb4)
  have HBt4 := Lib.hid (bel_bl HBt3.out hb4)
  have HR4 := Lib.hid hR4
  have HBy4 := Lib.hid hBy4
  have HRl4 := Lib.hid hRl4
  have HLen := Lib.hid hlen'
  have HE4 : RowKit.Hid (∀ j v, (feC x')[j]? = some v → w4.cell? ((⟨g4, 0, none⟩ : Addr).add j) = some v) := Lib.hid (fun j v hv => by
    rw [Addr.add_lit, Nat.zero_add]
    refine hW4.cell ?_
    rw [rowsFe1, List.getElem?_append_left (List.getElem?_eq_some_iff.1 hv).1]
    exact hv)
  clear gx' hfe ho4 hlo4 hW4 hcl4 hb4 hR4 hBy4 hx21 hRl4 hlen' HX3 HN3 HBt3 HR3 HBy HRl HL3
  rename_i hK
  refine hK _ _ ?_
  refine wl_read (v := .pointer (some ⟨g4, 0, none⟩)) (some 28) rfl (by rfl) ?_ ?_
  · go_simp; (try rfl)
  simp only [Act.put, List.setIfInBounds_toArray, List.set_cons_zero, List.set_cons_succ]
  refine wl_load_at (some 29) rfl (by rfl) 34 (.tmp 28) rfl ⟨g4, 0, none⟩ rfl (feC x') _ HE4.out Try.underlying34 rfl (by kernel_rfl) ?_
  simp only [Act.put, List.setIfInBounds_toArray, List.set_cons_zero, List.set_cons_succ]
  refine wpList_store_row rfl 34 (.tmp 2) (.tmp 29) rfl b2 (feC x').toArray rfl rfl 34 (feC x).toArray HX4.out (by kernel_rfl) rfl (by simp [feC, frCells, Value.oneCell']) ?_
  have HX5 : RowKit.Hid (Whole (w4.setRow b2 (feC x').toArray) b2 34 (feC x')) := Lib.hid (Whole.row HX4.out (feC x'))
  have hk5 := kept_row (S := fun i => i = b2) (w := w4) rfl (feC x').toArray
  have HN5 := Lib.hid (HN4.out.keep hk5 (fun b hb q => by have h1 := (HN4.out.lt b hb).1; have h2 := HLb.out; have h3 : b = b2 := q; omega) (fun b q => by rw [show b = b2 from q]; exact nob_whole HX4.out (by decide)))
  have HR5 : RowKit.Hid (RdS (w4.setRow b2 (feC x').toArray) B 1 x'.2.1 x'.1.2.length x'.2.2 (rowsV f8 x'.1.2)) := Lib.hid (by
    have h0 := HR4.out.row_far (g := b2) (fun a ha hp e => by have h1 := HRl4.out a ha hp; have h2 : a.block = b2 := Option.some.inj e; omega) (feC x').toArray
    exact ⟨h0.len, h0.none_, h0.le, fun a ha hp => by have h1 := HRl4.out a ha hp; have h2 := HLb.out; omega, h0.cell⟩)
  have HBt5 : RowKit.Hid (Below w.heap.size w (w4.setRow b2 (feC x').toArray)) := Lib.hid (below_row HBt4.out (Nat.le_of_eq Gb2.out) _)
  obtain ⟨w5, gw5⟩ : ∃ z, w4.setRow b2 (feC x').toArray = z := ⟨_, rfl⟩
  rw [gw5] at HX5 HN5 HR5 HBt5 ⊢
  clear gw5 hk5 hK HX4 HN4 HBt4 HR4 HE4
  have HRb := HR5
  -- Send of it
  go_upto_region 6 with fail
  refine wp_region_lit ?_
  refine wl_read (v := ?_) (some 30) rfl (by rfl) ?_ ?_
  rotate_left
  · go_simp; (try with_reducible rfl)
  simp only [Act.put, List.setIfInBounds_toArray, List.set_cons_zero, List.set_cons_succ]
  refine wl_load (some 31) rfl (by rfl) 34 (.tmp 2) rfl b2 rfl 34 (feC x') _ HX5.out Try.underlying34 rfl (by kernel_rfl) ?_
  simp only [Act.put, List.setIfInBounds_toArray, List.set_cons_zero, List.set_cons_succ]
  refine wl_buildSlice (some 32) rfl (by rfl) 35 34 1 #[(0, .tmp 31)] rfl Try.underlying35 (feC x').toArray (by kernel_rfl) ?_
  simp only [Act.put, List.setIfInBounds_toArray, List.set_cons_zero, List.set_cons_succ]
  have HL6 : RowKit.Hid (FesIn (w5.alloc (.cells (feC x').toArray 34)) (some ⟨w5.heap.size, 0, none⟩) 1 1 [x']) := Lib.hid ⟨by rw [rowsFe1]; exact RdS.of_whole (Whole.new_ _ _ _) rfl, fun z hz => by rw [List.mem_singleton.1 hz]; exact ⟨(HR5.out.up (Below.refl _ _) HN5.out.hsz).al _, HBy4.out⟩⟩
  have HF6 : RowKit.Hid (FesFar (NtT g t none (wayB none)) (some ⟨w5.heap.size, 0, none⟩) 1 [x']) := Lib.hid ⟨fun a ha _ q => by obtain rfl := Option.some.inj ha; exact absurd (HN5.out.lt _ q).2 (Nat.lt_irrefl _), fun z hz a ha hp q => by rw [List.mem_singleton.1 hz] at ha hp; have h1 := HRl4.out a ha hp; have h2 := (HN5.out.lt _ q).1; have h3 := HLb.out; omega⟩
  have hb6 := below1 w5 (.cells (feC x').toArray 34)
  have HN6 := Lib.hid (HN5.out.below hb6)
  have HBL6 : RowKit.Hid (Below B w5 (w5.alloc (.cells (feC x').toArray 34))) := Lib.hid (hb6.mono HN5.out.hsz)
  obtain ⟨w6, gw6⟩ : ∃ z, w5.alloc (.cells (feC x').toArray 34) = z := ⟨_, rfl⟩
  obtain ⟨g6, gg6⟩ : ∃ z, w5.heap.size = z := ⟨_, rfl⟩
  rw [gw6] at HL6 HN6 HBL6 ⊢
  rw [gg6] at HL6 HF6 ⊢
  clear gw6 gg6 hb6 HN5
  go_wp2_with fail
  refine (nt_send w6 HN6.out zeroN_ok _ 1 1 [x'] HL6.out (by decide) HF6.out (by decide)).mono ?_
  rintro e w7 ⟨rfl, go7, A7, c7, es7, hN, hG⟩
  rw [show keyF [x'] = [x'.1] from rfl] at hN ⊢
  have HN7 := Lib.hid hN
  have HBL7 := Lib.hid (HBL6.out.trans (HN6.out.far hG HN6.out.hsz))
  clear hN hG HL6 HF6 HN6 HBL6
  have HM := Lib.hid (rfmay_any x'.1.1 x'.2.1 x'.1.2.length x'.2.2)
  by_cases hm : mayF x'.1.1 x'.1.2.length = 0
  · have ho := one_may (f := x'.1) hm
    have hok1 := one_ok hm HBy4.out
    rw [ho.1] at HN7
    rw [ho.2]
    obtain ⟨P, gP⟩ : ∃ z, putF x'.1.1 x'.1.2 = z := ⟨_, rfl⟩
    have hPl : P.length = 19 + x'.1.2.length := by rw [← gP]; exact putF_len _ _
    obtain ⟨N, gN⟩ : ∃ z, x'.1.2.length = z := ⟨_, rfl⟩
    have HN := Lib.hid gN
    rw [gN] at hPl
    have GP := Lib.hid gP
    rw [gP] at HN7 hok1
    have HD := Lib.hid (nt_doub w7 HN7.out hok1 0 (fun x hx => by simp at hx; omega))
    rw [(two_doub P).1, (two_doub P).2] at HD
    have Hok2 : RowKit.Hid (NtOk (twoS P)) := Lib.hid ((two_doub P).1 ▸ hok1.doub 0)
    have Hm := Lib.hid hm
    have hNb : N ≤ 100 := by have := HLen.out; omega
    have hw19 : IntKind.i64.wrap ((19 : Int) + (N : Int)) = (19 : Int) + (N : Int) := IntWalk.i64_in _ (by omega)
    clear ho hok1 hm gN HM
    go_wp2_with fail
    refine HD.out.mono ?_
    rintro e w8 ⟨rfl, go8, A8, c8, es8, hN, hG⟩
    have HN8 := Lib.hid hN
    have HBL8 := Lib.hid (HBL7.out.trans (HN7.out.far hG HN7.out.hsz))
    have HL8 := Lib.hid (nt_len g A8 2 c8 t w8 hN.box)
    clear hN hG HD HN7 HBL7
    go_upto_region 10 with (first
      | (go_at_call 14
         refine HL8.out.mono ?_
         rintro e w9 ⟨rfl, hw9⟩
         replace hw9 := hw9.symm
         subst hw9))
    clear HL8
    by_cases ha : 0 ≤ a ∧ a < (P.length : Int)
    · obtain ⟨i, rfl⟩ : ∃ i : Nat, a = (i : Int) := ⟨a.toNat, by omega⟩
      have hi : i < P.length := by omega
      have ht := two_turn P P [1, 0, 0, 0, 0, 1] i hi
      have ht2 := two_turn (P.set i (flip1 (P.getD i 0))) P [1, 0, 0, 0, 0, 1] i (by rw [List.length_set]; exact hi)
      rw [set_twice hi] at ht2
      have hfl : okF (P.set i (flip1 (P.getD i 0))) = false := by
        rw [← gP] at hi ⊢
        exact okF_flip Hm.out HBy4.out hi
      have HT := Lib.hid (nt_turn w8 HN8.out Hok2.out 0 (i : Int))
      rw [show twoS P = ([P, P], [1, 0, 0, 0, 0, 1]) from rfl, ht.1, ht.2] at HT
      have Hok : RowKit.Hid (NtOk ([P.set i (flip1 (P.getD i 0)), P], [1, 0, 0, 0, 0, 1])) := Lib.hid (ht.2 ▸ Hok2.out.turn 0 (i : Int))
      have HTt : RowKit.Hid (turnE ([P.set i (flip1 (P.getD i 0)), P], [1, 0, 0, 0, 0, 1]) 0 (i : Int) = 0 ∧ turnN ([P.set i (flip1 (P.getD i 0)), P], [1, 0, 0, 0, 0, 1]) 0 (i : Int) = ([P, P], [1, 0, 0, 0, 0, 1])) := Lib.hid ht2
      obtain ⟨fa, gfa⟩ : ∃ z, zeroF = z := ⟨_, rfl⟩
      obtain ⟨Ma, gMa⟩ : ∃ z, ([] : List Nat) = z := ⟨_, rfl⟩
      have HATa : RowKit.Hid (atR ([P.set i (flip1 (P.getD i 0)), P], [1, 0, 0, 0, 0, 1]) 0 = (fa, Ma, 2)) := Lib.hid (by rw [two_bad hfl, gfa, gMa])
      have HATb : RowKit.Hid (atR ([P.set i (flip1 (P.getD i 0)), P], [1, 0, 0, 0, 0, 1]) 1 = (x'.1.1, x'.1.2, 0)) := Lib.hid (by rw [← gP]; exact two_at Hm.out _ _)
      have hq1 : decide ((i : Int) < 0) = false := decide_eq_false (by omega)
      have hq2 : decide ((19 : Int) + (N : Int) ≤ (i : Int)) = false := decide_eq_false (by omega)
      clear hi ht ht2 hfl gfa gMa ha
      clear gP hPl
      go_wp2_with fail
      refine HT.out.mono ?_
      rintro e w9 ⟨rfl, go9, A9, c9, es9, hN, hG⟩
      have HNw9 := Lib.hid hN
      have HBLw9 := Lib.hid (HBL8.out.trans (HN8.out.far hG HN8.out.hsz))
      clear hN hG HT HN8 HBL8
      have HAa := Lib.hid (nt_at w9 HNw9.out Hok.out 0)
      go_wp2_with fail
      refine HAa.out.mono ?_
      rintro e1 va ⟨Aa, ca, rfl, hr, -, hb⟩
      rw [HATa.out] at hr ⊢
      have HRa := Lib.hid hr
      have HBa := Lib.hid hb
      clear hr hb HAa
      rename_i hK
      refine hK _ _ ?_
      refine wl_read (v := ?_) (some 49) rfl (by rfl) ?_ ?_
      rotate_left
      · go_simp; (try with_reducible rfl)
      simp only [Act.put, List.setIfInBounds_toArray, List.set_cons_zero, List.set_cons_succ]
      refine wl_read (v := .agg (frCells fa Aa Ma.length ca).toArray) (some 52) rfl (by rfl) ?_ ?_
      · go_simp; (try rfl)
      simp only [Act.put, List.setIfInBounds_toArray, List.set_cons_zero, List.set_cons_succ]
      refine wl_read (v := ?_) (some 53) rfl (by rfl) ?_ ?_
      rotate_left
      · go_simp; (try with_reducible rfl)
      simp only [Act.put, List.setIfInBounds_toArray, List.set_cons_zero, List.set_cons_succ]
      refine wl_new 8 rfl rfl rfl 34 (.tmp 52) rfl rfl #[.int .i64 0, .int .i64 0, .int .i64 0, .int .i64 0, .int .i64 0, .int .i64 0, .slice none 0 0] ?_ (frCells fa Aa Ma.length ca).toArray (by simp) rfl (by kernel_rfl) rfl (by simp [frCells, Value.oneCell']) ?_
      · go_simp; (try with_reducible rfl)
      simp only [Act.put, List.setIfInBounds_toArray, List.set_cons_zero, List.set_cons_succ]
      have HYa : RowKit.Hid (Whole (va.alloc (.cells (frCells fa Aa Ma.length ca).toArray 34)) va.heap.size 34 (frCells fa Aa Ma.length ca)) := Lib.hid (Whole.new_ _ _ _)
      have hbb := bel_al HBa.out (.cells (frCells fa Aa Ma.length ca).toArray 34)
      have HRaa := Lib.hid (HRa.out.al (.cells (frCells fa Aa Ma.length ca).toArray 34))
      have HNw10 := Lib.hid (HNw9.out.below hbb)
      have HBLw10 := Lib.hid (HBLw9.out.trans (hbb.mono HNw9.out.hsz))
      obtain ⟨w10, gwn⟩ : ∃ z, va.alloc (.cells (frCells fa Aa Ma.length ca).toArray 34) = z := ⟨_, rfl⟩
      obtain ⟨ba, gbn⟩ : ∃ z, va.heap.size = z := ⟨_, rfl⟩
      rw [gwn] at HYa HRaa HNw10 HBLw10 ⊢
      rw [gbn] at HYa ⊢
      clear gwn gbn hbb HRa HBa hK HNw9 HBLw9
      have HAb := Lib.hid (nt_at w10 HNw10.out Hok.out 1)
      go_wp2_with fail
      refine HAb.out.mono ?_
      rintro e1 vb ⟨Ab, cb, rfl, hr, -, hb⟩
      rw [HATb.out] at hr ⊢
      have HRb := Lib.hid hr
      have HBb := Lib.hid hb
      clear hr hb HAb
      rename_i hK
      refine hK _ _ ?_
      refine wl_read (v := ?_) (some 54) rfl (by rfl) ?_ ?_
      rotate_left
      · go_simp; (try with_reducible rfl)
      simp only [Act.put, List.setIfInBounds_toArray, List.set_cons_zero, List.set_cons_succ]
      refine wl_read (v := .agg (frCells x'.1.1 Ab x'.1.2.length cb).toArray) (some 57) rfl (by rfl) ?_ ?_
      · go_simp; (try rfl)
      simp only [Act.put, List.setIfInBounds_toArray, List.set_cons_zero, List.set_cons_succ]
      refine wl_read (v := ?_) (some 58) rfl (by rfl) ?_ ?_
      rotate_left
      · go_simp; (try with_reducible rfl)
      simp only [Act.put, List.setIfInBounds_toArray, List.set_cons_zero, List.set_cons_succ]
      refine wl_new 10 rfl rfl rfl 34 (.tmp 57) rfl rfl #[.int .i64 0, .int .i64 0, .int .i64 0, .int .i64 0, .int .i64 0, .int .i64 0, .slice none 0 0] ?_ (frCells x'.1.1 Ab x'.1.2.length cb).toArray (by simp) rfl (by kernel_rfl) rfl (by simp [frCells, Value.oneCell']) ?_
      · go_simp; (try with_reducible rfl)
      simp only [Act.put, List.setIfInBounds_toArray, List.set_cons_zero, List.set_cons_succ]
      have HYb : RowKit.Hid (Whole (vb.alloc (.cells (frCells x'.1.1 Ab x'.1.2.length cb).toArray 34)) vb.heap.size 34 (frCells x'.1.1 Ab x'.1.2.length cb)) := Lib.hid (Whole.new_ _ _ _)
      have hbb := bel_al HBb.out (.cells (frCells x'.1.1 Ab x'.1.2.length cb).toArray 34)
      have HRab := Lib.hid (HRb.out.al (.cells (frCells x'.1.1 Ab x'.1.2.length cb).toArray 34))
      have HNw11 := Lib.hid (HNw10.out.below hbb)
      have HBLw11 := Lib.hid (HBLw10.out.trans (hbb.mono HNw10.out.hsz))
      obtain ⟨w11, gwn⟩ : ∃ z, vb.alloc (.cells (frCells x'.1.1 Ab x'.1.2.length cb).toArray 34) = z := ⟨_, rfl⟩
      obtain ⟨bb, gbn⟩ : ∃ z, vb.heap.size = z := ⟨_, rfl⟩
      rw [gwn] at HYb HRab HNw11 HBLw11 ⊢
      rw [gbn] at HYb ⊢
      clear gwn gbn hbb HRb HBb hK HNw10 HBLw10
      have HX := Lib.hid (HX5.out.at_ (HBLw11.out.block b2 HLb.out))
      have HSm := Lib.hid (same_any x'.1.1 x'.1.1 Ab x'.2.1 x'.1.2.length cb x'.1.2.length x'.2.2 x'.1.2 x'.1.2 w11 HRab.out (HRb.out.up HBLw11.out HNw11.out.hsz))
      rw [sameF_self] at HSm
      go_upto_region 13 with fail
      refine wp_region_lit ?_
      refine wl_load (some 59) rfl (by rfl) 34 (.tmp 10) rfl bb rfl 34 (frCells x'.1.1 Ab x'.1.2.length cb) _ HYb.out Try.underlying34 rfl (by kernel_rfl) ?_
      simp only [Act.put, List.setIfInBounds_toArray, List.set_cons_zero, List.set_cons_succ]
      refine wl_load (some 60) rfl (by rfl) 34 (.tmp 2) rfl b2 rfl 34 (feC x') _ HX.out Try.underlying34 rfl (by kernel_rfl) ?_
      simp only [Act.put, List.setIfInBounds_toArray, List.set_cons_zero, List.set_cons_succ]
      go_wp2_with fail
      refine HSm.out.mono ?_
      rintro e1 w12 ⟨rfl, hb⟩
      have HNw12 := Lib.hid (HNw11.out.below hb)
      have HBLw12 := Lib.hid (HBLw11.out.trans (hb.mono HNw11.out.hsz))
      clear hb HSm HX HYb HRab HNw11 HBLw11
      have HX := HX5.out.at_ (HBLw12.out.block b2 HLb.out)
      have e6 : w12.cell? ⟨b2, 6, none⟩ = some (.slice x'.2.1 N x'.2.2) := HN.out ▸ HX.cell (i := 6) rfl
      clear HX
      have HT := Lib.hid (nt_turn w12 HNw12.out Hok.out 0 (i : Int))
      rw [HTt.out.1, HTt.out.2] at HT
      go_upto_region 16 with fail
      clear hq1 hq2 e6
      go_wp2_with fail
      refine HT.out.mono ?_
      rintro e w13 ⟨rfl, go13, A13, c13, es13, hN, hG⟩
      have HNw13 := Lib.hid hN
      have HBLw13 := Lib.hid (HBLw12.out.trans (HNw12.out.far hG HNw12.out.hsz))
      have Hok3 := Hok2
      clear Hok
      have Hok : RowKit.Hid (NtOk ([P, P], [1, 0, 0, 0, 0, 1])) := Lib.hid Hok3.out
      have HATc : RowKit.Hid (atR ([P, P], [1, 0, 0, 0, 0, 1]) 0 = (x'.1.1, x'.1.2, 0)) := Lib.hid (by rw [← GP.out]; exact two_at0 Hm.out _ _)
      clear hN hG HT HNw12 HBLw12
      have HAc := Lib.hid (nt_at w13 HNw13.out Hok.out 0)
      go_wp2_with fail
      refine HAc.out.mono ?_
      rintro e1 vc ⟨Ac, cc, rfl, hr, -, hb⟩
      rw [HATc.out] at hr ⊢
      have HRc := Lib.hid hr
      have HBc := Lib.hid hb
      clear hr hb HAc
      rename_i hK
      refine hK _ _ ?_
      refine wl_read (v := ?_) (some 88) rfl (by rfl) ?_ ?_
      rotate_left
      · go_simp; (try with_reducible rfl)
      simp only [Act.put, List.setIfInBounds_toArray, List.set_cons_zero, List.set_cons_succ]
      refine wl_read (v := .agg (frCells x'.1.1 Ac x'.1.2.length cc).toArray) (some 91) rfl (by rfl) ?_ ?_
      · go_simp; (try rfl)
      simp only [Act.put, List.setIfInBounds_toArray, List.set_cons_zero, List.set_cons_succ]
      refine wl_read (v := ?_) (some 92) rfl (by rfl) ?_ ?_
      rotate_left
      · go_simp; (try with_reducible rfl)
      simp only [Act.put, List.setIfInBounds_toArray, List.set_cons_zero, List.set_cons_succ]
      refine wl_new 14 rfl rfl rfl 34 (.tmp 91) rfl rfl #[.int .i64 0, .int .i64 0, .int .i64 0, .int .i64 0, .int .i64 0, .int .i64 0, .slice none 0 0] ?_ (frCells x'.1.1 Ac x'.1.2.length cc).toArray (by simp) rfl (by kernel_rfl) rfl (by simp [frCells, Value.oneCell']) ?_
      · go_simp; (try with_reducible rfl)
      simp only [Act.put, List.setIfInBounds_toArray, List.set_cons_zero, List.set_cons_succ]
      have HYc : RowKit.Hid (Whole (vc.alloc (.cells (frCells x'.1.1 Ac x'.1.2.length cc).toArray 34)) vc.heap.size 34 (frCells x'.1.1 Ac x'.1.2.length cc)) := Lib.hid (Whole.new_ _ _ _)
      have hbb := bel_al HBc.out (.cells (frCells x'.1.1 Ac x'.1.2.length cc).toArray 34)
      have HRac := Lib.hid (HRc.out.al (.cells (frCells x'.1.1 Ac x'.1.2.length cc).toArray 34))
      have HNw14 := Lib.hid (HNw13.out.below hbb)
      have HBLw14 := Lib.hid (HBLw13.out.trans (hbb.mono HNw13.out.hsz))
      obtain ⟨w14, gwn⟩ : ∃ z, vc.alloc (.cells (frCells x'.1.1 Ac x'.1.2.length cc).toArray 34) = z := ⟨_, rfl⟩
      obtain ⟨bc, gbn⟩ : ∃ z, vc.heap.size = z := ⟨_, rfl⟩
      rw [gwn] at HYc HRac HNw14 HBLw14 ⊢
      rw [gbn] at HYc ⊢
      clear gwn gbn hbb HRc HBc hK HNw13 HBLw13
      have HX := Lib.hid (HX5.out.at_ (HBLw14.out.block b2 HLb.out))
      have HSm := Lib.hid (same_any x'.1.1 x'.1.1 Ac x'.2.1 x'.1.2.length cc x'.1.2.length x'.2.2 x'.1.2 x'.1.2 w14 HRac.out (HRb.out.up HBLw14.out HNw14.out.hsz))
      rw [sameF_self] at HSm
      go_upto_region 18 with fail
      refine wp_region_lit ?_
      refine wl_load (some 93) rfl (by rfl) 34 (.tmp 14) rfl bc rfl 34 (frCells x'.1.1 Ac x'.1.2.length cc) _ HYc.out Try.underlying34 rfl (by kernel_rfl) ?_
      simp only [Act.put, List.setIfInBounds_toArray, List.set_cons_zero, List.set_cons_succ]
      refine wl_load (some 94) rfl (by rfl) 34 (.tmp 2) rfl b2 rfl 34 (feC x') _ HX.out Try.underlying34 rfl (by kernel_rfl) ?_
      simp only [Act.put, List.setIfInBounds_toArray, List.set_cons_zero, List.set_cons_succ]
      go_wp2_with fail
      refine HSm.out.mono ?_
      rintro e1 w15 ⟨rfl, hb⟩
      have HNw15 := Lib.hid (HNw14.out.below hb)
      have HBLw15 := Lib.hid (HBLw14.out.trans (hb.mono HNw14.out.hsz))
      clear hb HSm HX HYc HRac HNw14 HBLw14
      have HBt15 := Lib.hid (HBt5.out.trans (HBLw15.out.mono HBw.out))
      clear HNw15 HBLw15
      go_wp2
      go_ret
      exact ⟨rfl, HBt15.out⟩
    · have ht := two_turn_no P P [1, 0, 0, 0, 0, 1] a ha
      have HT := Lib.hid (nt_turn w8 HN8.out Hok2.out 0 a)
      rw [show twoS P = ([P, P], [1, 0, 0, 0, 0, 1]) from rfl, ht.1, ht.2] at HT
      have Hok : RowKit.Hid (NtOk ([P, P], [1, 0, 0, 0, 0, 1])) := Lib.hid Hok2.out
      obtain ⟨fa, gfa⟩ : ∃ z, x'.1.1 = z := ⟨_, rfl⟩
      obtain ⟨Ma, gMa⟩ : ∃ z, x'.1.2 = z := ⟨_, rfl⟩
      have HATa : RowKit.Hid (atR ([P, P], [1, 0, 0, 0, 0, 1]) 0 = (fa, Ma, 0)) := Lib.hid (by rw [← gP, ← gfa, ← gMa]; exact two_at0 Hm.out _ _)
      have HATb : RowKit.Hid (atR ([P, P], [1, 0, 0, 0, 0, 1]) 1 = (x'.1.1, x'.1.2, 0)) := Lib.hid (by rw [← gP]; exact two_at Hm.out _ _)
      have hor : a < 0 ∨ (¬ a < 0 ∧ (19 : Int) + (N : Int) ≤ a) := by omega
      clear ht gfa gMa ha
      clear gP hPl
      go_wp2_with fail
      refine HT.out.mono ?_
      rintro e w9 ⟨rfl, go9, A9, c9, es9, hN, hG⟩
      have HNw9 := Lib.hid hN
      have HBLw9 := Lib.hid (HBL8.out.trans (HN8.out.far hG HN8.out.hsz))
      clear hN hG HT HN8 HBL8
      have HAa := Lib.hid (nt_at w9 HNw9.out Hok.out 0)
      go_wp2_with fail
      refine HAa.out.mono ?_
      rintro e1 va ⟨Aa, ca, rfl, hr, -, hb⟩
      rw [HATa.out] at hr ⊢
      have HRa := Lib.hid hr
      have HBa := Lib.hid hb
      clear hr hb HAa
      rename_i hK
      refine hK _ _ ?_
      refine wl_read (v := ?_) (some 49) rfl (by rfl) ?_ ?_
      rotate_left
      · go_simp; (try with_reducible rfl)
      simp only [Act.put, List.setIfInBounds_toArray, List.set_cons_zero, List.set_cons_succ]
      refine wl_read (v := .agg (frCells fa Aa Ma.length ca).toArray) (some 52) rfl (by rfl) ?_ ?_
      · go_simp; (try rfl)
      simp only [Act.put, List.setIfInBounds_toArray, List.set_cons_zero, List.set_cons_succ]
      refine wl_read (v := ?_) (some 53) rfl (by rfl) ?_ ?_
      rotate_left
      · go_simp; (try with_reducible rfl)
      simp only [Act.put, List.setIfInBounds_toArray, List.set_cons_zero, List.set_cons_succ]
      refine wl_new 8 rfl rfl rfl 34 (.tmp 52) rfl rfl #[.int .i64 0, .int .i64 0, .int .i64 0, .int .i64 0, .int .i64 0, .int .i64 0, .slice none 0 0] ?_ (frCells fa Aa Ma.length ca).toArray (by simp) rfl (by kernel_rfl) rfl (by simp [frCells, Value.oneCell']) ?_
      · go_simp; (try with_reducible rfl)
      simp only [Act.put, List.setIfInBounds_toArray, List.set_cons_zero, List.set_cons_succ]
      have HYa : RowKit.Hid (Whole (va.alloc (.cells (frCells fa Aa Ma.length ca).toArray 34)) va.heap.size 34 (frCells fa Aa Ma.length ca)) := Lib.hid (Whole.new_ _ _ _)
      have hbb := bel_al HBa.out (.cells (frCells fa Aa Ma.length ca).toArray 34)
      have HRaa := Lib.hid (HRa.out.al (.cells (frCells fa Aa Ma.length ca).toArray 34))
      have HNw10 := Lib.hid (HNw9.out.below hbb)
      have HBLw10 := Lib.hid (HBLw9.out.trans (hbb.mono HNw9.out.hsz))
      obtain ⟨w10, gwn⟩ : ∃ z, va.alloc (.cells (frCells fa Aa Ma.length ca).toArray 34) = z := ⟨_, rfl⟩
      obtain ⟨ba, gbn⟩ : ∃ z, va.heap.size = z := ⟨_, rfl⟩
      rw [gwn] at HYa HRaa HNw10 HBLw10 ⊢
      rw [gbn] at HYa ⊢
      clear gwn gbn hbb HRa HBa hK HNw9 HBLw9
      have HAb := Lib.hid (nt_at w10 HNw10.out Hok.out 1)
      go_wp2_with fail
      refine HAb.out.mono ?_
      rintro e1 vb ⟨Ab, cb, rfl, hr, -, hb⟩
      rw [HATb.out] at hr ⊢
      have HRb := Lib.hid hr
      have HBb := Lib.hid hb
      clear hr hb HAb
      rename_i hK
      refine hK _ _ ?_
      refine wl_read (v := ?_) (some 54) rfl (by rfl) ?_ ?_
      rotate_left
      · go_simp; (try with_reducible rfl)
      simp only [Act.put, List.setIfInBounds_toArray, List.set_cons_zero, List.set_cons_succ]
      refine wl_read (v := .agg (frCells x'.1.1 Ab x'.1.2.length cb).toArray) (some 57) rfl (by rfl) ?_ ?_
      · go_simp; (try rfl)
      simp only [Act.put, List.setIfInBounds_toArray, List.set_cons_zero, List.set_cons_succ]
      refine wl_read (v := ?_) (some 58) rfl (by rfl) ?_ ?_
      rotate_left
      · go_simp; (try with_reducible rfl)
      simp only [Act.put, List.setIfInBounds_toArray, List.set_cons_zero, List.set_cons_succ]
      refine wl_new 10 rfl rfl rfl 34 (.tmp 57) rfl rfl #[.int .i64 0, .int .i64 0, .int .i64 0, .int .i64 0, .int .i64 0, .int .i64 0, .slice none 0 0] ?_ (frCells x'.1.1 Ab x'.1.2.length cb).toArray (by simp) rfl (by kernel_rfl) rfl (by simp [frCells, Value.oneCell']) ?_
      · go_simp; (try with_reducible rfl)
      simp only [Act.put, List.setIfInBounds_toArray, List.set_cons_zero, List.set_cons_succ]
      have HYb : RowKit.Hid (Whole (vb.alloc (.cells (frCells x'.1.1 Ab x'.1.2.length cb).toArray 34)) vb.heap.size 34 (frCells x'.1.1 Ab x'.1.2.length cb)) := Lib.hid (Whole.new_ _ _ _)
      have hbb := bel_al HBb.out (.cells (frCells x'.1.1 Ab x'.1.2.length cb).toArray 34)
      have HRab := Lib.hid (HRb.out.al (.cells (frCells x'.1.1 Ab x'.1.2.length cb).toArray 34))
      have HNw11 := Lib.hid (HNw10.out.below hbb)
      have HBLw11 := Lib.hid (HBLw10.out.trans (hbb.mono HNw10.out.hsz))
      obtain ⟨w11, gwn⟩ : ∃ z, vb.alloc (.cells (frCells x'.1.1 Ab x'.1.2.length cb).toArray 34) = z := ⟨_, rfl⟩
      obtain ⟨bb, gbn⟩ : ∃ z, vb.heap.size = z := ⟨_, rfl⟩
      rw [gwn] at HYb HRab HNw11 HBLw11 ⊢
      rw [gbn] at HYb ⊢
      clear gwn gbn hbb HRb HBb hK HNw10 HBLw10
      have HX := Lib.hid (HX5.out.at_ (HBLw11.out.block b2 HLb.out))
      have HSm := Lib.hid (same_any x'.1.1 x'.1.1 Ab x'.2.1 x'.1.2.length cb x'.1.2.length x'.2.2 x'.1.2 x'.1.2 w11 HRab.out (HRb.out.up HBLw11.out HNw11.out.hsz))
      rw [sameF_self] at HSm
      go_upto_region 13 with fail
      refine wp_region_lit ?_
      refine wl_load (some 59) rfl (by rfl) 34 (.tmp 10) rfl bb rfl 34 (frCells x'.1.1 Ab x'.1.2.length cb) _ HYb.out Try.underlying34 rfl (by kernel_rfl) ?_
      simp only [Act.put, List.setIfInBounds_toArray, List.set_cons_zero, List.set_cons_succ]
      refine wl_load (some 60) rfl (by rfl) 34 (.tmp 2) rfl b2 rfl 34 (feC x') _ HX.out Try.underlying34 rfl (by kernel_rfl) ?_
      simp only [Act.put, List.setIfInBounds_toArray, List.set_cons_zero, List.set_cons_succ]
      go_wp2_with fail
      refine HSm.out.mono ?_
      rintro e1 w12 ⟨rfl, hb⟩
      have HNw12 := Lib.hid (HNw11.out.below hb)
      have HBLw12 := Lib.hid (HBLw11.out.trans (hb.mono HNw11.out.hsz))
      clear hb HSm HX HYb HRab HNw11 HBLw11
      have HX := HX5.out.at_ (HBLw12.out.block b2 HLb.out)
      have e6 : w12.cell? ⟨b2, 6, none⟩ = some (.slice x'.2.1 N x'.2.2) := HN.out ▸ HX.cell (i := 6) rfl
      clear HX
      have HBt12 := Lib.hid (HBt5.out.trans (HBLw12.out.mono HBw.out))
      clear HNw12 HBLw12
      rcases hor with h0 | ⟨h0, h1⟩
      · have hq1 : decide (a < 0) = true := decide_eq_true h0
        clear h0
        go_wp2
        go_ret
        exact ⟨rfl, HBt12.out⟩
      · have hq1 : decide (a < 0) = false := decide_eq_false (by omega)
        have hq2 : decide ((19 : Int) + (N : Int) ≤ a) = true := decide_eq_true h1
        clear h0 h1
        go_wp2
        go_ret
        exact ⟨rfl, HBt12.out⟩
  · have h1 : sentN zeroN [x'.1] = 0 := one_not hm
    rw [h1]
    have HX7 := Lib.hid (HX5.out.at_ (HBL7.out.block b2 HLb.out))
    have HBt7 := Lib.hid (HBt5.out.trans (HBL7.out.mono HBw.out))
    have hmz : (mayF x'.1.1 x'.1.2.length == 0) = false := by simpa using hm
    obtain ⟨z, gz⟩ : ∃ z, mayF x'.1.1 x'.1.2.length = z := ⟨_, rfl⟩
    rw [gz] at hmz HM
    have hm2 : (z != 0) = true := by simpa using hmz
    clear h1 hm gz HN7 HBL7
    go_upto_region 7 with fail
    refine wp_region_lit ?_
    refine wl_load (some 35) rfl (by rfl) 34 (.tmp 2) rfl b2 rfl 34 (feC x') _ HX7.out Try.underlying34 rfl (by kernel_rfl) ?_
    simp only [Act.put, List.setIfInBounds_toArray, List.set_cons_zero, List.set_cons_succ]
    go_wp2_with fail
    refine (HM.out w7).mono ?_
    rintro e w8 ⟨rfl, hb8⟩
    have HBt8 := Lib.hid (bel_bl HBt7.out hb8)
    clear hb8
    go_wp2
    go_ret
    exact ⟨by first | rfl | exact ret_bool hm2, HBt8.out⟩
end Go.Proofs.Ytibbibpfnpjjdaa

/- The law of the turned bits, over a frame as it is read. -/
namespace Go.Proofs.Ytibbibpfnpjjdaa
open Go.ChangeShapes Go.WideShapes Go.ChangeAt Go.RowKit

theorem law_turns (a : FrRaw) (x : Int) (W : World) (h : FrOk W a) : Calls Try.prog 6 #[.agg (frmCells a).toArray, .int .i64 x] W fun e w' => e = .returned (.bool true) ∧ Below W.heap.size W w' := by
  rw [feC_of h]
  refine turns_any (feOf a) x W (fe_ok h) ?_
  have h1 := h.2.1.rlen f8_len (by decide)
  have h2 := h.2.1.le
  have h3 := h.1
  show a.2.2.2.2.length ≤ maxLen
  omega
end Go.Proofs.Ytibbibpfnpjjdaa

/- 'NetTurns' answers true for any frame, whichever byte.
   No condition beyond the row's own. -/
namespace Go.Proofs.Ytibbibpfnpjjdaa
open Go.ChangeShapes Go.WideShapes Go.ChangeAt Go.RowKit
namespace lawNetTurns

set_option maxRecDepth 100000 in
theorem contract (H : Type) (enc : TypeId × Value → H) (W : World) (base : Nat) (args : Array Value) (ds gs : List (DataW H)) (before : List MemPlace)
    (hval : ∀ (j : Nat) t v, Try.f6.params[j]? = some t → args[j]? = some v → Value.okWide Try.prog W .any base t v)
    (hW : DataW.Whole enc Try.prog Try.f6.params.toList Rows.netTurnsSpec.vars false W args.toList ds gs before) :
    Calls Try.prog 6 args W fun e W' => ∃ v, e = .returned v ∧ Rows.netTurnsSpec.post enc Try.prog Try.f6 false true false false W args v W' := by
  have hW' := hW
  obtain ⟨p, q, hA, hV, rfl, hfz, hnd⟩ := hW
  obtain ⟨rfl, rfl⟩ := trodVars_none hV
  rw [Try.params6] at hA hval
  obtain ⟨v0, v1, d0, d1, p0, p1, rfl, rfl, rfl, h0, h1⟩ := trodAll_two hA
  obtain ⟨a, rfl, hx0⟩ := open_row1_struct (row1_frame H) Try.underlying34 (hval 0 34 v0 rfl rfl) h0
  obtain ⟨x, rfl, h1b, -⟩ := open_int Try.underlying3 (hval 1 3 v1 rfl rfl) h1
  refine (law_turns a x W hx0).mono fun e W' ⟨he, hb⟩ => ⟨_, he, ?_⟩
  exact law_post Try.laidOut (by kernel_rfl) (tb := 4) (by kernel_rfl) Try.underlying4 rfl ⟨rfl, rfl, rfl⟩ hW' hb

set_option maxRecDepth 100000 in
theorem lifted (os : Os) (started : os.Started) (H : Type) (enc : TypeId × Value → H) :
    ReturnsInHanded {} Try.checked os 6 .any (Rows.netTurnsSpec.pre6 enc Try.prog Try.f6 Rows.netTurnsRow.domain false) (Rows.netTurnsSpec.post enc Try.prog Try.f6 false true false false) := by
  refine returnsInHanded_of_change (C := Try.checked) Try.own started (by kernel_rfl) Try.func6
    (ChangeSpec.witness6 (enc := enc) (C := Try.checked) false ⟨#[], #[.agg #[.int .i64 0, .int .i64 0, .int .i64 0, .int .i64 0, .int .i64 0, .int .i64 0, .slice none 0 0], .int .i64 0], []⟩ 8 (by kernel_rfl) (by kernel_rfl) (by kernel_rfl) (by kernel_rfl)) ?_
  intro W base args ds gs before hval hW _ _
  exact contract H enc W base args ds gs before hval hW

theorem proved : Rows.NetTurnsSaid :=
  OpenClaim.holds_of_wide 6 Try.f6 rfl rfl rfl rfl rfl rfl rfl ⟨rfl, rfl, rfl, rfl, rfl⟩ rfl rfl rfl rfl rfl (by kernel_rfl) Try.func6 (by kernel_rfl)
    (of_decide_eq_true (by kernel_rfl)) (by unfold Func.isWrapper; first | (rw [if_pos (by decide +kernel)]; kernel_rfl) | (rw [if_neg (by decide +kernel)]; exact ⟨rfl, rfl⟩))
    (fun os started H enc _ => lifted os started H enc)
end lawNetTurns
end Go.Proofs.Ytibbibpfnpjjdaa
