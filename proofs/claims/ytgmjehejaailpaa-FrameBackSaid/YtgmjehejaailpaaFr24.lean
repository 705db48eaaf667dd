/- The law FrameBack. -/
import Derived.Test.YtgmjehejaailpaaFr23
namespace Go.Proofs.Ytgmjehejaailpaa
open Go.RowKit
set_option linter.unusedSimpArgs false
set_option linter.unusedVariables false

/-- The row at block ga is P, turned in up to k bytes from a0 on; tk: whether one was turned. -/
def BackIn (V : World) (ga cq a0 : Nat) (P : List Nat) (k : Nat) (tk : Bool) (wr : World) : Prop :=
  ∃ (T : List Nat) (cu : List Value), T.length = P.length ∧ (∀ b ∈ T, b < 256) ∧ cnt (T.take a0) = 0 ∧ cnt (T.drop (a0 + k)) = 0 ∧ tk = !(cnt T == 0) ∧ Whole wr ga 5 cu ∧ cu.length = cq ∧ cu.take P.length = rowsV f8 (List.zipWith (· ^^^ ·) P T) ∧ Kept (fun b => b = ga) V wr
theorem BackIn.first {V : World} {ga cq a0 : Nat} {P : List Nat} {cu : List Value} (hw : Whole V ga 5 cu) (hl : cu.length = cq) (ht : cu.take P.length = rowsV f8 P) : BackIn V ga cq a0 P 0 false V := by
  have hz : cnt (List.replicate P.length 0) = 0 := cnt_none (fun b hb => (List.mem_replicate.1 hb).2)
  refine ⟨List.replicate P.length 0, cu, by simp, fun b hb => by rw [(List.mem_replicate.1 hb).2]; omega, cnt_none (fun b hb => (List.mem_replicate.1 (List.mem_of_mem_take hb)).2), cnt_none (fun b hb => (List.mem_replicate.1 (List.mem_of_mem_drop hb)).2), by rw [hz]; rfl, hw, hl, ?_, Kept.refl _ _⟩
  rw [zip_none (by simp) hz]
  exact ht
theorem BackIn.drew {V wr : World} {ga cq a0 k : Nat} {P : List Nat} {tk : Bool} (h : BackIn V ga cq a0 P k tk wr) : BackIn V ga cq a0 P k tk wr.drew := by
  obtain ⟨T, cu, h1, h2, h3, h4, h5, h6, h7, h8, h9⟩ := h
  exact ⟨T, cu, h1, h2, h3, h4, h5, h6.drew, h7, h8, h9.drew⟩
theorem BackIn.ext {V wr w' : World} {ga cq a0 k : Nat} {P : List Nat} {tk : Bool} (h : BackIn V ga cq a0 P k tk wr) (hx : Ext wr w') : BackIn V ga cq a0 P k tk w' := by
  obtain ⟨T, cu, h1, h2, h3, h4, h5, h6, h7, h8, h9⟩ := h
  exact ⟨T, cu, h1, h2, h3, h4, h5, h6.below hx, h7, h8, h9.trans (Kept.of_ext hx)⟩
theorem BackIn.keeps {V wr : World} {ga cq a0 k : Nat} {P : List Nat} {tk : Bool} (h : BackIn V ga cq a0 P k tk wr) : Kept (fun b => b = ga) V wr := by
  obtain ⟨T, cu, h1, h2, h3, h4, h5, h6, h7, h8, h9⟩ := h
  exact h9
theorem BackIn.at_ {V wr : World} {ga cq a0 k p : Nat} {P : List Nat} {tk : Bool} (h : BackIn V ga cq a0 P k tk wr) (hp : P[a0 + k]? = some p) :
    wr.cell? ⟨ga, a0 + k, none⟩ = some (.int .u8 (p : Int)) ∧ wr.frozen? ⟨ga, a0 + k, none⟩ = false := by
  obtain ⟨T, cu, h1, h2, h3, h4, h5, h6, h7, h8, h9⟩ := h
  have hlt := (List.getElem?_eq_some_iff.1 hp).1
  have h0 : T[a0 + k]? = some 0 := by
    rw [List.getElem?_eq_getElem (by omega)]
    exact congrArg some (cnt_all h4 _ (List.mem_iff_getElem.2 ⟨0, by rw [List.length_drop]; omega, by simp⟩))
  refine ⟨?_, h6.free _⟩
  refine h6.cell ?_
  have e : (cu.take P.length)[a0 + k]? = some (.int .u8 (p : Int)) := by
    rw [h8, rowsV_map8, List.getElem?_map, zip_at hp h0]
    rfl
  rwa [List.getElem?_take, if_pos hlt] at e
theorem BackIn.step {V wr : World} {ga cq a0 k p t : Nat} {P : List Nat} {tk : Bool} (h : BackIn V ga cq a0 P k tk wr) (hp : P[a0 + k]? = some p) (ht : t < 256) :
    BackIn V ga cq a0 P (k + 1) (tk || !(t == 0)) (wr.setCell ⟨ga, a0 + k, none⟩ (.int .u8 ((p ^^^ t : Nat) : Int))) := by
  obtain ⟨T, cu, h1, h2, h3, h4, h5, h6, h7, h8, h9⟩ := h
  have hlt := (List.getElem?_eq_some_iff.1 hp).1
  have h0 : T[a0 + k]? = some 0 := by
    rw [List.getElem?_eq_getElem (by omega)]
    exact congrArg some (cnt_all h4 _ (List.mem_iff_getElem.2 ⟨0, by rw [List.length_drop]; omega, by simp⟩))
  refine ⟨T.set (a0 + k) t, cu.set (a0 + k) _, by simp [h1], fun b hb => ?_, ?_, ?_, ?_, h6.set_ _ _, by simp [h7], ?_, h9.setCell (.inl rfl) _⟩
  · rcases List.mem_or_eq_of_mem_set hb with hb | rfl
    · exact h2 b hb
    · exact ht
  · rw [List.take_set, List.set_eq_of_length_le (by rw [List.length_take]; omega)]
    exact h3
  · rw [List.drop_set, if_pos (by omega)]
    exact cnt_none (fun b hb => cnt_all h4 b (by rw [← Nat.add_assoc, ← List.drop_drop] at hb; exact List.mem_of_mem_drop hb))
  · rw [cnt_set h0, h5]
    by_cases hb : t = 0
    · simp [hb]
    · simp [hb]
  · rw [zip_set hp h0, List.take_set, h8, rowsV_map8, rowsV_map8, List.map_set]
/-- What a Take of it gives. -/
theorem BackIn.end_ {V wr : World} {ga cq a0 k : Nat} {f : FrT} {M : List Nat} {tk : Bool} (h : BackIn V ga cq a0 (putF f M) k tk wr) (hk : k ≤ 4) (hm : mayF f M.length = 0) (hb : ∀ b ∈ M, b < 256) (hq : (putF f M).length ≤ cq) :
    ∃ N, RdS wr wr.heap.size 1 (some ⟨ga, 0, none⟩) (putF f M).length cq (rowsV f8 N) ∧ (∀ b ∈ N, b < 256) ∧ okF N = !tk := by
  obtain ⟨T, cu, h1, h2, h3, h4, h5, h6, h7, h8, h9⟩ := h
  have hP := putF_lt hm hb
  have hlen : (List.zipWith (· ^^^ ·) (putF f M) T).length = (putF f M).length := by rw [List.length_zipWith, h1, Nat.min_self]
  refine ⟨_, ⟨by rw [rowsV_length f8 f8_len, hlen], fun e => (by cases e), hq, fun a ha _ => (by obtain rfl := Option.some.inj ha; exact h6.lt), fun a ha j u hu => ?_⟩, zip_lt hP h2, ?_⟩
  · obtain rfl := Option.some.inj ha
    rw [← h8] at hu
    rw [List.getElem?_take] at hu
    split at hu
    · rw [Addr.add_lit]; simpa using h6.cell hu
    · cases hu
  · by_cases hc : cnt T = 0
    · rw [zip_none h1 hc, ok_put hm, h5, hc]; rfl
    · have hs : sealB (putF f M) = true := by
        have := ok_put hm
        unfold okF at this
        rw [Bool.and_eq_true, Bool.and_eq_true] at this
        exact this.2.1
      have := seal_turn hP hs (by rw [putF_len]; omega) h1 h2 hk h3 h4 hc
      unfold okF
      rw [this, h5]
      simp [hc]
theorem take_end (A : Option Addr) (n c : Nat) (N : List Nat) (W : World) (b : Bool) (g : okF N = !b) (h : RdS W W.heap.size 1 A n c (rowsV f8 N)) (hb : ∀ b ∈ N, b < 256) (hn : n ≤ maxLen) :
    Calls Try.prog 17 #[.slice A n c] W fun e w' => ∃ F A m c, e = .returned (.tuple #[.agg (frCells F A m c).toArray, .int .i64 (if b = true then 2 else 0)]) ∧ Below W.heap.size W w' := by
  refine (take_any A n c N W h hb hn).mono ?_
  rintro e w' ⟨A', c', h1, _, _, h4⟩
  refine ⟨(takeR N).1, A', (takeR N).2.1.length, c', ?_, h4⟩
  rw [h1]
  cases b
  · rw [show (takeR N).2.2 = 0 from by unfold takeR; rw [if_pos (by rw [g]; rfl)]]; rfl
  · rw [show (takeR N).2.2 = 2 from by unfold takeR; rw [if_neg (by rw [g]; simp)]]; rfl
set_option maxRecDepth 100000 in
set_option maxHeartbeats 4000000 in
theorem back_far1 (f : FrT) (A : Option Addr) (n c : Nat) (L : List Nat) (f2 : FrT) (A2 : Option Addr) (n2 c2 : Nat) (L2 : List Nat) (at_ : Int) (t0 t1 t2 t3 : Nat) (w : World) (h : RdS w w.heap.size 1 A n c (rowsV f8 L)) (hb : ∀ b ∈ L, b < 256) (hn : n ≤ maxLen) (h2 : RdS w w.heap.size 1 A2 n2 c2 (rowsV f8 L2)) (hb2 : ∀ b ∈ L2, b < 256) (hn2 : n2 ≤ maxLen) (ht0 : t0 < 256) (ht1 : t1 < 256) (ht2 : t2 < 256) (ht3 : t3 < 256) (hM : 1000 < (L.take 16400).length) :
    Calls Try.prog 5 #[.agg #[.int .i64 f.k, .int .i64 f.fr, .int .i64 f.tt, .int .i64 f.ep, .int .i64 f.sq, .int .i64 f.ac, .slice A n c], .agg #[.int .i64 f2.k, .int .i64 f2.fr, .int .i64 f2.tt, .int .i64 f2.ep, .int .i64 f2.sq, .int .i64 f2.ac, .slice A2 n2 c2], .agg #[.int .i64 at_, .int .u8 (t0 : Int), .int .u8 (t1 : Int), .int .u8 (t2 : Int), .int .u8 (t3 : Int)]] w fun e w' => e = .returned (.bool true) ∧ Below w.heap.size w w' := by
  have hl := h.rlen f8_len (by decide)
  obtain ⟨M, gM⟩ : ∃ x, L.take 16400 = x := ⟨_, rfl⟩
  have hF := few15 f A n c L
  have hRM := h.fewer8 16400
  rw [gM] at hF hRM
  have HbM : RowKit.Hid (∀ b ∈ M, b < 256) := Lib.hid (gM ▸ fun b h => hb b (List.mem_of_mem_take h))
  have hM16 : M.length ≤ 16400 := by rw [← gM, List.length_take]; omega
  have HF : RowKit.Hid _ := Lib.hid (fun w' (h' : RdS w' w'.heap.size 1 A n c (rowsV f8 L)) => hF w' h' hn)
  have RM := Lib.hid hRM
  have LM : RowKit.Hid (∀ a, A = some a → 0 < M.length → a.block < w.heap.size) := Lib.hid hRM.low
  have RL := Lib.hid h
  have LL : RowKit.Hid (∀ a, A = some a → 0 < n → a.block < w.heap.size) := Lib.hid h.low
  clear hF hRM h hb hn hl
  have hl2 := h2.rlen f8_len (by decide)
  obtain ⟨M2, gM2⟩ : ∃ x, L2.take 16400 = x := ⟨_, rfl⟩
  have hF2 := few15 f2 A2 n2 c2 L2
  have hRM2 := h2.fewer8 16400
  rw [gM2] at hF2 hRM2
  have HbM2 : RowKit.Hid (∀ b ∈ M2, b < 256) := Lib.hid (gM2 ▸ fun b h => hb2 b (List.mem_of_mem_take h))
  have hM162 : M2.length ≤ 16400 := by rw [← gM2, List.length_take]; omega
  have HF2 : RowKit.Hid _ := Lib.hid (fun w' (h' : RdS w' w'.heap.size 1 A2 n2 c2 (rowsV f8 L2)) => hF2 w' h' hn2)
  have RM2 := Lib.hid hRM2
  have LM2 : RowKit.Hid (∀ a, A2 = some a → 0 < M2.length → a.block < w.heap.size) := Lib.hid hRM2.low
  have RL2 := Lib.hid h2
  have LL2 : RowKit.Hid (∀ a, A2 = some a → 0 < n2 → a.block < w.heap.size) := Lib.hid h2.low
  clear hF2 hRM2 h2 hb2 hn2 hl2
  try rw [gM] at hM
  try rw [gM2] at hM2
  try rw [gM] at hz
  try rw [gM2] at hz2
  try rw [gM] at hat
  have hM1 : decide ((1000 : Int) < (M.length : Int)) = true := by first | exact decide_eq_true (by omega) | exact decide_eq_false (by omega)
  clear gM gM2
  unfold frCells at HF HF2
  go_enter Try.func5, Try.ntmps5
  go_wp2_with fail
  refine (shown15 _).mono ?_
  rintro e w1 ⟨rfl, hb1⟩
  have RL_2 := Lib.hid ((((RL.out.al (.cells #[.int .i64 f.k, .int .i64 f.fr, .int .i64 f.tt, .int .i64 f.ep, .int .i64 f.sq, .int .i64 f.ac, .slice A n c] 24)).al (.cells #[.int .i64 f2.k, .int .i64 f2.fr, .int .i64 f2.tt, .int .i64 f2.ep, .int .i64 f2.sq, .int .i64 f2.ac, .slice A2 n2 c2] 24)).al (.cells #[.int .i64 at_, .int .u8 (t0 : Int), .int .u8 (t1 : Int), .int .u8 (t2 : Int), .int .u8 (t3 : Int)] 41)).bl hb1)
  have RM_2 := Lib.hid ((((RM.out.al (.cells #[.int .i64 f.k, .int .i64 f.fr, .int .i64 f.tt, .int .i64 f.ep, .int .i64 f.sq, .int .i64 f.ac, .slice A n c] 24)).al (.cells #[.int .i64 f2.k, .int .i64 f2.fr, .int .i64 f2.tt, .int .i64 f2.ep, .int .i64 f2.sq, .int .i64 f2.ac, .slice A2 n2 c2] 24)).al (.cells #[.int .i64 at_, .int .u8 (t0 : Int), .int .u8 (t1 : Int), .int .u8 (t2 : Int), .int .u8 (t3 : Int)] 41)).bl hb1)
  have RL2_2 := Lib.hid ((((RL2.out.al (.cells #[.int .i64 f.k, .int .i64 f.fr, .int .i64 f.tt, .int .i64 f.ep, .int .i64 f.sq, .int .i64 f.ac, .slice A n c] 24)).al (.cells #[.int .i64 f2.k, .int .i64 f2.fr, .int .i64 f2.tt, .int .i64 f2.ep, .int .i64 f2.sq, .int .i64 f2.ac, .slice A2 n2 c2] 24)).al (.cells #[.int .i64 at_, .int .u8 (t0 : Int), .int .u8 (t1 : Int), .int .u8 (t2 : Int), .int .u8 (t3 : Int)] 41)).bl hb1)
  have RM2_2 := Lib.hid ((((RM2.out.al (.cells #[.int .i64 f.k, .int .i64 f.fr, .int .i64 f.tt, .int .i64 f.ep, .int .i64 f.sq, .int .i64 f.ac, .slice A n c] 24)).al (.cells #[.int .i64 f2.k, .int .i64 f2.fr, .int .i64 f2.tt, .int .i64 f2.ep, .int .i64 f2.sq, .int .i64 f2.ac, .slice A2 n2 c2] 24)).al (.cells #[.int .i64 at_, .int .u8 (t0 : Int), .int .u8 (t1 : Int), .int .u8 (t2 : Int), .int .u8 (t3 : Int)] 41)).bl hb1)
  have F_2 := Lib.hid ((((show Whole (w.alloc (.cells #[.int .i64 f.k, .int .i64 f.fr, .int .i64 f.tt, .int .i64 f.ep, .int .i64 f.sq, .int .i64 f.ac, .slice A n c] 24)) (w.heap.size) (24) ([.int .i64 f.k, .int .i64 f.fr, .int .i64 f.tt, .int .i64 f.ep, .int .i64 f.sq, .int .i64 f.ac, .slice A n c]) from Whole.new2 (by first | rfl | simp)).al (.cells #[.int .i64 f2.k, .int .i64 f2.fr, .int .i64 f2.tt, .int .i64 f2.ep, .int .i64 f2.sq, .int .i64 f2.ac, .slice A2 n2 c2] 24)).al (.cells #[.int .i64 at_, .int .u8 (t0 : Int), .int .u8 (t1 : Int), .int .u8 (t2 : Int), .int .u8 (t3 : Int)] 41)).bl hb1)
  have G_2 := Lib.hid (((show Whole ((w.alloc (.cells #[.int .i64 f.k, .int .i64 f.fr, .int .i64 f.tt, .int .i64 f.ep, .int .i64 f.sq, .int .i64 f.ac, .slice A n c] 24)).alloc (.cells #[.int .i64 f2.k, .int .i64 f2.fr, .int .i64 f2.tt, .int .i64 f2.ep, .int .i64 f2.sq, .int .i64 f2.ac, .slice A2 n2 c2] 24)) ((w.heap.size + 1)) (24) ([.int .i64 f2.k, .int .i64 f2.fr, .int .i64 f2.tt, .int .i64 f2.ep, .int .i64 f2.sq, .int .i64 f2.ac, .slice A2 n2 c2]) from Whole.new2 (by first | rfl | simp)).al (.cells #[.int .i64 at_, .int .u8 (t0 : Int), .int .u8 (t1 : Int), .int .u8 (t2 : Int), .int .u8 (t3 : Int)] 41)).bl hb1)
  have X_2 := Lib.hid ((show Whole (((w.alloc (.cells #[.int .i64 f.k, .int .i64 f.fr, .int .i64 f.tt, .int .i64 f.ep, .int .i64 f.sq, .int .i64 f.ac, .slice A n c] 24)).alloc (.cells #[.int .i64 f2.k, .int .i64 f2.fr, .int .i64 f2.tt, .int .i64 f2.ep, .int .i64 f2.sq, .int .i64 f2.ac, .slice A2 n2 c2] 24)).alloc (.cells #[.int .i64 at_, .int .u8 (t0 : Int), .int .u8 (t1 : Int), .int .u8 (t2 : Int), .int .u8 (t3 : Int)] 41)) ((w.heap.size + 1 + 1)) (41) ([.int .i64 at_, .int .u8 (t0 : Int), .int .u8 (t1 : Int), .int .u8 (t2 : Int), .int .u8 (t3 : Int)]) from Whole.new2 (by first | rfl | simp)).bl hb1)
  have Bel_2 := Lib.hid (bel_bl (bel_al (bel_al (bel_al (Below.refl _ w) (.cells #[.int .i64 f.k, .int .i64 f.fr, .int .i64 f.tt, .int .i64 f.ep, .int .i64 f.sq, .int .i64 f.ac, .slice A n c] 24)) (.cells #[.int .i64 f2.k, .int .i64 f2.fr, .int .i64 f2.tt, .int .i64 f2.ep, .int .i64 f2.sq, .int .i64 f2.ac, .slice A2 n2 c2] 24)) (.cells #[.int .i64 at_, .int .u8 (t0 : Int), .int .u8 (t1 : Int), .int .u8 (t2 : Int), .int .u8 (t3 : Int)] 41)) hb1)
  clear RL RM RL2 RM2
  clear hb1
  have LO_F_3 : RowKit.Hid (w.heap.size ≤ w.heap.size) := Lib.hid (by omega)
  have LO_G_4 : RowKit.Hid (w.heap.size ≤ (w.heap.size + 1)) := Lib.hid (by omega)
  have NE_F_G : RowKit.Hid (w.heap.size ≠ (w.heap.size + 1)) := Lib.hid (by omega)
  have LO_X_5 : RowKit.Hid (w.heap.size ≤ (w.heap.size + 1 + 1)) := Lib.hid (by omega)
  have NE_F_X : RowKit.Hid (w.heap.size ≠ (w.heap.size + 1 + 1)) := Lib.hid (by omega)
  have NE_G_X : RowKit.Hid ((w.heap.size + 1) ≠ (w.heap.size + 1 + 1)) := Lib.hid (by omega)
  go_upto_region 2 with fail
  refine wp_region_lit ?_
  refine wpList_load_row rfl 24 (.tmp 3) rfl w.heap.size rfl 24 #[.int .i64 f.k, .int .i64 f.fr, .int .i64 f.tt, .int .i64 f.ep, .int .i64 f.sq, .int .i64 f.ac, .slice A n c] (0, 0) _ (F_2.out) Try.underlying24 rfl (by kernel_rfl) ?_
  simp only [Act.put, List.setIfInBounds_toArray, List.set_cons_zero, List.set_cons_succ]
  go_wp2_with fail
  refine (HF.out _ RL_2.out).mono ?_
  rintro e w6 ⟨rfl, hb6⟩
  have RL_7 := Lib.hid (RL_2.out.bl hb6)
  have RM_7 := Lib.hid (RM_2.out.bl hb6)
  have RL2_7 := Lib.hid (RL2_2.out.bl hb6)
  have RM2_7 := Lib.hid (RM2_2.out.bl hb6)
  have F_7 := Lib.hid (F_2.out.bl hb6)
  have G_7 := Lib.hid (G_2.out.bl hb6)
  have X_7 := Lib.hid (X_2.out.bl hb6)
  have Bel_7 := Lib.hid (bel_bl Bel_2.out hb6)
  clear RL_2 RM_2 RL2_2 RM2_2 F_2 G_2 X_2 Bel_2
  clear hb6
  rename_i hK
  refine hK _ _ ?_
  clear hK
  refine wpList_store_row rfl 24 (.tmp 3) (.tmp 22) rfl w.heap.size #[.int .i64 f.k, .int .i64 f.fr, .int .i64 f.tt, .int .i64 f.ep, .int .i64 f.sq, .int .i64 f.ac, .slice A M.length c] rfl rfl 24 #[.int .i64 f.k, .int .i64 f.fr, .int .i64 f.tt, .int .i64 f.ep, .int .i64 f.sq, .int .i64 f.ac, .slice A n c] (F_7.out) (by kernel_rfl) rfl (by simp [Value.oneCell']) ?_
  obtain ⟨v8, gv8⟩ : ∃ x, w6.setRow w.heap.size #[.int .i64 f.k, .int .i64 f.fr, .int .i64 f.tt, .int .i64 f.ep, .int .i64 f.sq, .int .i64 f.ac, .slice A M.length c] = x := ⟨_, rfl⟩
  have RL_8 := Lib.hid (show RdS v8 v8.heap.size _ _ _ _ _ from gv8 ▸ RdS.row_far RL_7.out (g := w.heap.size) (fun a ha hn e => by have h1 := LL.out a ha hn; have h2 := LO_F_3.out; have h3 := Option.some.inj e; omega) #[.int .i64 f.k, .int .i64 f.fr, .int .i64 f.tt, .int .i64 f.ep, .int .i64 f.sq, .int .i64 f.ac, .slice A M.length c])
  have RM_8 := Lib.hid (show RdS v8 v8.heap.size _ _ _ _ _ from gv8 ▸ RdS.row_far RM_7.out (g := w.heap.size) (fun a ha hn e => by have h1 := LM.out a ha hn; have h2 := LO_F_3.out; have h3 := Option.some.inj e; omega) #[.int .i64 f.k, .int .i64 f.fr, .int .i64 f.tt, .int .i64 f.ep, .int .i64 f.sq, .int .i64 f.ac, .slice A M.length c])
  have RL2_8 := Lib.hid (show RdS v8 v8.heap.size _ _ _ _ _ from gv8 ▸ RdS.row_far RL2_7.out (g := w.heap.size) (fun a ha hn e => by have h1 := LL2.out a ha hn; have h2 := LO_F_3.out; have h3 := Option.some.inj e; omega) #[.int .i64 f.k, .int .i64 f.fr, .int .i64 f.tt, .int .i64 f.ep, .int .i64 f.sq, .int .i64 f.ac, .slice A M.length c])
  have RM2_8 := Lib.hid (show RdS v8 v8.heap.size _ _ _ _ _ from gv8 ▸ RdS.row_far RM2_7.out (g := w.heap.size) (fun a ha hn e => by have h1 := LM2.out a ha hn; have h2 := LO_F_3.out; have h3 := Option.some.inj e; omega) #[.int .i64 f.k, .int .i64 f.fr, .int .i64 f.tt, .int .i64 f.ep, .int .i64 f.sq, .int .i64 f.ac, .slice A M.length c])
  have F_8 : RowKit.Hid (Whole v8 w.heap.size 24 [.int .i64 f.k, .int .i64 f.fr, .int .i64 f.tt, .int .i64 f.ep, .int .i64 f.sq, .int .i64 f.ac, .slice A M.length c]) := Lib.hid (gv8 ▸ Whole.row F_7.out [.int .i64 f.k, .int .i64 f.fr, .int .i64 f.tt, .int .i64 f.ep, .int .i64 f.sq, .int .i64 f.ac, .slice A M.length c])
  have G_8 := Lib.hid (show Whole v8 (w.heap.size + 1) _ _ from gv8 ▸ Whole.row_far G_7.out ((Ne.symm NE_F_G.out)) _)
  have X_8 := Lib.hid (show Whole v8 (w.heap.size + 1 + 1) _ _ from gv8 ▸ Whole.row_far X_7.out ((Ne.symm NE_F_X.out)) _)
  have Bel_8 : RowKit.Hid (Below w.heap.size w v8) := Lib.hid (gv8 ▸ below_row Bel_7.out LO_F_3.out _)
  rw [gv8]
  clear gv8
  clear RL_7 RM_7 RL2_7 RM2_7 F_7 G_7 X_7 Bel_7
  clear RL_8
  clear HF
  go_upto_region 3 with fail
  refine wp_region_lit ?_
  refine wpList_load_row rfl 24 (.tmp 4) rfl (w.heap.size + 1) rfl 24 #[.int .i64 f2.k, .int .i64 f2.fr, .int .i64 f2.tt, .int .i64 f2.ep, .int .i64 f2.sq, .int .i64 f2.ac, .slice A2 n2 c2] (0, 0) _ (G_8.out) Try.underlying24 rfl (by kernel_rfl) ?_
  simp only [Act.put, List.setIfInBounds_toArray, List.set_cons_zero, List.set_cons_succ]
  go_wp2_with fail
  refine (HF2.out _ RL2_8.out).mono ?_
  rintro e w9 ⟨rfl, hb9⟩
  have RM_10 := Lib.hid (RM_8.out.bl hb9)
  have RL2_10 := Lib.hid (RL2_8.out.bl hb9)
  have RM2_10 := Lib.hid (RM2_8.out.bl hb9)
  have F_10 := Lib.hid (F_8.out.bl hb9)
  have G_10 := Lib.hid (G_8.out.bl hb9)
  have X_10 := Lib.hid (X_8.out.bl hb9)
  have Bel_10 := Lib.hid (bel_bl Bel_8.out hb9)
  clear RM_8 RL2_8 RM2_8 F_8 G_8 X_8 Bel_8
  clear hb9
  rename_i hK
  refine hK _ _ ?_
  clear hK
  refine wpList_store_row rfl 24 (.tmp 4) (.tmp 24) rfl (w.heap.size + 1) #[.int .i64 f2.k, .int .i64 f2.fr, .int .i64 f2.tt, .int .i64 f2.ep, .int .i64 f2.sq, .int .i64 f2.ac, .slice A2 M2.length c2] rfl rfl 24 #[.int .i64 f2.k, .int .i64 f2.fr, .int .i64 f2.tt, .int .i64 f2.ep, .int .i64 f2.sq, .int .i64 f2.ac, .slice A2 n2 c2] (G_10.out) (by kernel_rfl) rfl (by simp [Value.oneCell']) ?_
  obtain ⟨v11, gv11⟩ : ∃ x, w9.setRow (w.heap.size + 1) #[.int .i64 f2.k, .int .i64 f2.fr, .int .i64 f2.tt, .int .i64 f2.ep, .int .i64 f2.sq, .int .i64 f2.ac, .slice A2 M2.length c2] = x := ⟨_, rfl⟩
  have RM_11 := Lib.hid (show RdS v11 v11.heap.size _ _ _ _ _ from gv11 ▸ RdS.row_far RM_10.out (g := (w.heap.size + 1)) (fun a ha hn e => by have h1 := LM.out a ha hn; have h2 := LO_G_4.out; have h3 := Option.some.inj e; omega) #[.int .i64 f2.k, .int .i64 f2.fr, .int .i64 f2.tt, .int .i64 f2.ep, .int .i64 f2.sq, .int .i64 f2.ac, .slice A2 M2.length c2])
  have RL2_11 := Lib.hid (show RdS v11 v11.heap.size _ _ _ _ _ from gv11 ▸ RdS.row_far RL2_10.out (g := (w.heap.size + 1)) (fun a ha hn e => by have h1 := LL2.out a ha hn; have h2 := LO_G_4.out; have h3 := Option.some.inj e; omega) #[.int .i64 f2.k, .int .i64 f2.fr, .int .i64 f2.tt, .int .i64 f2.ep, .int .i64 f2.sq, .int .i64 f2.ac, .slice A2 M2.length c2])
  have RM2_11 := Lib.hid (show RdS v11 v11.heap.size _ _ _ _ _ from gv11 ▸ RdS.row_far RM2_10.out (g := (w.heap.size + 1)) (fun a ha hn e => by have h1 := LM2.out a ha hn; have h2 := LO_G_4.out; have h3 := Option.some.inj e; omega) #[.int .i64 f2.k, .int .i64 f2.fr, .int .i64 f2.tt, .int .i64 f2.ep, .int .i64 f2.sq, .int .i64 f2.ac, .slice A2 M2.length c2])
  have F_11 := Lib.hid (show Whole v11 w.heap.size _ _ from gv11 ▸ Whole.row_far F_10.out (NE_F_G.out) _)
  have G_11 : RowKit.Hid (Whole v11 (w.heap.size + 1) 24 [.int .i64 f2.k, .int .i64 f2.fr, .int .i64 f2.tt, .int .i64 f2.ep, .int .i64 f2.sq, .int .i64 f2.ac, .slice A2 M2.length c2]) := Lib.hid (gv11 ▸ Whole.row G_10.out [.int .i64 f2.k, .int .i64 f2.fr, .int .i64 f2.tt, .int .i64 f2.ep, .int .i64 f2.sq, .int .i64 f2.ac, .slice A2 M2.length c2])
  have X_11 := Lib.hid (show Whole v11 (w.heap.size + 1 + 1) _ _ from gv11 ▸ Whole.row_far X_10.out ((Ne.symm NE_G_X.out)) _)
  have Bel_11 : RowKit.Hid (Below w.heap.size w v11) := Lib.hid (gv11 ▸ below_row Bel_10.out LO_G_4.out _)
  rw [gv11]
  clear gv11
  clear RM_10 RL2_10 RM2_10 F_10 G_10 X_10 Bel_10
  clear RL2_11
  clear HF2
  have lw12 : (v11).cell? ⟨w.heap.size, 6, none⟩ = some (.slice A M.length c) := F_11.out.cell (i := 6) rfl
  have lw13 : (v11).cell? ⟨(w.heap.size + 1), 6, none⟩ = some (.slice A2 M2.length c2) := G_11.out.cell (i := 6) rfl
  go_wp2
  go_ret
  exact ⟨rfl, Bel_11.out⟩

set_option maxRecDepth 100000 in
set_option maxHeartbeats 4000000 in
theorem back_far2 (f : FrT) (A : Option Addr) (n c : Nat) (L : List Nat) (f2 : FrT) (A2 : Option Addr) (n2 c2 : Nat) (L2 : List Nat) (at_ : Int) (t0 t1 t2 t3 : Nat) (w : World) (h : RdS w w.heap.size 1 A n c (rowsV f8 L)) (hb : ∀ b ∈ L, b < 256) (hn : n ≤ maxLen) (h2 : RdS w w.heap.size 1 A2 n2 c2 (rowsV f8 L2)) (hb2 : ∀ b ∈ L2, b < 256) (hn2 : n2 ≤ maxLen) (ht0 : t0 < 256) (ht1 : t1 < 256) (ht2 : t2 < 256) (ht3 : t3 < 256) (hM : ¬ 1000 < (L.take 16400).length) (hM2 : 1000 < (L2.take 16400).length) :
    Calls Try.prog 5 #[.agg #[.int .i64 f.k, .int .i64 f.fr, .int .i64 f.tt, .int .i64 f.ep, .int .i64 f.sq, .int .i64 f.ac, .slice A n c], .agg #[.int .i64 f2.k, .int .i64 f2.fr, .int .i64 f2.tt, .int .i64 f2.ep, .int .i64 f2.sq, .int .i64 f2.ac, .slice A2 n2 c2], .agg #[.int .i64 at_, .int .u8 (t0 : Int), .int .u8 (t1 : Int), .int .u8 (t2 : Int), .int .u8 (t3 : Int)]] w fun e w' => e = .returned (.bool true) ∧ Below w.heap.size w w' := by
  have hl := h.rlen f8_len (by decide)
  obtain ⟨M, gM⟩ : ∃ x, L.take 16400 = x := ⟨_, rfl⟩
  have hF := few15 f A n c L
  have hRM := h.fewer8 16400
  rw [gM] at hF hRM
  have HbM : RowKit.Hid (∀ b ∈ M, b < 256) := Lib.hid (gM ▸ fun b h => hb b (List.mem_of_mem_take h))
  have hM16 : M.length ≤ 16400 := by rw [← gM, List.length_take]; omega
  have HF : RowKit.Hid _ := Lib.hid (fun w' (h' : RdS w' w'.heap.size 1 A n c (rowsV f8 L)) => hF w' h' hn)
  have RM := Lib.hid hRM
  have LM : RowKit.Hid (∀ a, A = some a → 0 < M.length → a.block < w.heap.size) := Lib.hid hRM.low
  have RL := Lib.hid h
  have LL : RowKit.Hid (∀ a, A = some a → 0 < n → a.block < w.heap.size) := Lib.hid h.low
  clear hF hRM h hb hn hl
  have hl2 := h2.rlen f8_len (by decide)
  obtain ⟨M2, gM2⟩ : ∃ x, L2.take 16400 = x := ⟨_, rfl⟩
  have hF2 := few15 f2 A2 n2 c2 L2
  have hRM2 := h2.fewer8 16400
  rw [gM2] at hF2 hRM2
  have HbM2 : RowKit.Hid (∀ b ∈ M2, b < 256) := Lib.hid (gM2 ▸ fun b h => hb2 b (List.mem_of_mem_take h))
  have hM162 : M2.length ≤ 16400 := by rw [← gM2, List.length_take]; omega
  have HF2 : RowKit.Hid _ := Lib.hid (fun w' (h' : RdS w' w'.heap.size 1 A2 n2 c2 (rowsV f8 L2)) => hF2 w' h' hn2)
  have RM2 := Lib.hid hRM2
  have LM2 : RowKit.Hid (∀ a, A2 = some a → 0 < M2.length → a.block < w.heap.size) := Lib.hid hRM2.low
  have RL2 := Lib.hid h2
  have LL2 : RowKit.Hid (∀ a, A2 = some a → 0 < n2 → a.block < w.heap.size) := Lib.hid h2.low
  clear hF2 hRM2 h2 hb2 hn2 hl2
  try rw [gM] at hM
  try rw [gM2] at hM2
  try rw [gM] at hz
  try rw [gM2] at hz2
  try rw [gM] at hat
  have hM1 : decide ((1000 : Int) < (M.length : Int)) = false := by first | exact decide_eq_true (by omega) | exact decide_eq_false (by omega)
  have hM12 : decide ((1000 : Int) < (M2.length : Int)) = true := by first | exact decide_eq_true (by omega) | exact decide_eq_false (by omega)
  clear gM gM2
  unfold frCells at HF HF2
  go_enter Try.func5, Try.ntmps5
  go_wp2_with fail
  refine (shown15 _).mono ?_
  rintro e w1 ⟨rfl, hb1⟩
  have RL_2 := Lib.hid ((((RL.out.al (.cells #[.int .i64 f.k, .int .i64 f.fr, .int .i64 f.tt, .int .i64 f.ep, .int .i64 f.sq, .int .i64 f.ac, .slice A n c] 24)).al (.cells #[.int .i64 f2.k, .int .i64 f2.fr, .int .i64 f2.tt, .int .i64 f2.ep, .int .i64 f2.sq, .int .i64 f2.ac, .slice A2 n2 c2] 24)).al (.cells #[.int .i64 at_, .int .u8 (t0 : Int), .int .u8 (t1 : Int), .int .u8 (t2 : Int), .int .u8 (t3 : Int)] 41)).bl hb1)
  have RM_2 := Lib.hid ((((RM.out.al (.cells #[.int .i64 f.k, .int .i64 f.fr, .int .i64 f.tt, .int .i64 f.ep, .int .i64 f.sq, .int .i64 f.ac, .slice A n c] 24)).al (.cells #[.int .i64 f2.k, .int .i64 f2.fr, .int .i64 f2.tt, .int .i64 f2.ep, .int .i64 f2.sq, .int .i64 f2.ac, .slice A2 n2 c2] 24)).al (.cells #[.int .i64 at_, .int .u8 (t0 : Int), .int .u8 (t1 : Int), .int .u8 (t2 : Int), .int .u8 (t3 : Int)] 41)).bl hb1)
  have RL2_2 := Lib.hid ((((RL2.out.al (.cells #[.int .i64 f.k, .int .i64 f.fr, .int .i64 f.tt, .int .i64 f.ep, .int .i64 f.sq, .int .i64 f.ac, .slice A n c] 24)).al (.cells #[.int .i64 f2.k, .int .i64 f2.fr, .int .i64 f2.tt, .int .i64 f2.ep, .int .i64 f2.sq, .int .i64 f2.ac, .slice A2 n2 c2] 24)).al (.cells #[.int .i64 at_, .int .u8 (t0 : Int), .int .u8 (t1 : Int), .int .u8 (t2 : Int), .int .u8 (t3 : Int)] 41)).bl hb1)
  have RM2_2 := Lib.hid ((((RM2.out.al (.cells #[.int .i64 f.k, .int .i64 f.fr, .int .i64 f.tt, .int .i64 f.ep, .int .i64 f.sq, .int .i64 f.ac, .slice A n c] 24)).al (.cells #[.int .i64 f2.k, .int .i64 f2.fr, .int .i64 f2.tt, .int .i64 f2.ep, .int .i64 f2.sq, .int .i64 f2.ac, .slice A2 n2 c2] 24)).al (.cells #[.int .i64 at_, .int .u8 (t0 : Int), .int .u8 (t1 : Int), .int .u8 (t2 : Int), .int .u8 (t3 : Int)] 41)).bl hb1)
  have F_2 := Lib.hid ((((show Whole (w.alloc (.cells #[.int .i64 f.k, .int .i64 f.fr, .int .i64 f.tt, .int .i64 f.ep, .int .i64 f.sq, .int .i64 f.ac, .slice A n c] 24)) (w.heap.size) (24) ([.int .i64 f.k, .int .i64 f.fr, .int .i64 f.tt, .int .i64 f.ep, .int .i64 f.sq, .int .i64 f.ac, .slice A n c]) from Whole.new2 (by first | rfl | simp)).al (.cells #[.int .i64 f2.k, .int .i64 f2.fr, .int .i64 f2.tt, .int .i64 f2.ep, .int .i64 f2.sq, .int .i64 f2.ac, .slice A2 n2 c2] 24)).al (.cells #[.int .i64 at_, .int .u8 (t0 : Int), .int .u8 (t1 : Int), .int .u8 (t2 : Int), .int .u8 (t3 : Int)] 41)).bl hb1)
  have G_2 := Lib.hid (((show Whole ((w.alloc (.cells #[.int .i64 f.k, .int .i64 f.fr, .int .i64 f.tt, .int .i64 f.ep, .int .i64 f.sq, .int .i64 f.ac, .slice A n c] 24)).alloc (.cells #[.int .i64 f2.k, .int .i64 f2.fr, .int .i64 f2.tt, .int .i64 f2.ep, .int .i64 f2.sq, .int .i64 f2.ac, .slice A2 n2 c2] 24)) ((w.heap.size + 1)) (24) ([.int .i64 f2.k, .int .i64 f2.fr, .int .i64 f2.tt, .int .i64 f2.ep, .int .i64 f2.sq, .int .i64 f2.ac, .slice A2 n2 c2]) from Whole.new2 (by first | rfl | simp)).al (.cells #[.int .i64 at_, .int .u8 (t0 : Int), .int .u8 (t1 : Int), .int .u8 (t2 : Int), .int .u8 (t3 : Int)] 41)).bl hb1)
  have X_2 := Lib.hid ((show Whole (((w.alloc (.cells #[.int .i64 f.k, .int .i64 f.fr, .int .i64 f.tt, .int .i64 f.ep, .int .i64 f.sq, .int .i64 f.ac, .slice A n c] 24)).alloc (.cells #[.int .i64 f2.k, .int .i64 f2.fr, .int .i64 f2.tt, .int .i64 f2.ep, .int .i64 f2.sq, .int .i64 f2.ac, .slice A2 n2 c2] 24)).alloc (.cells #[.int .i64 at_, .int .u8 (t0 : Int), .int .u8 (t1 : Int), .int .u8 (t2 : Int), .int .u8 (t3 : Int)] 41)) ((w.heap.size + 1 + 1)) (41) ([.int .i64 at_, .int .u8 (t0 : Int), .int .u8 (t1 : Int), .int .u8 (t2 : Int), .int .u8 (t3 : Int)]) from Whole.new2 (by first | rfl | simp)).bl hb1)
  have Bel_2 := Lib.hid (bel_bl (bel_al (bel_al (bel_al (Below.refl _ w) (.cells #[.int .i64 f.k, .int .i64 f.fr, .int .i64 f.tt, .int .i64 f.ep, .int .i64 f.sq, .int .i64 f.ac, .slice A n c] 24)) (.cells #[.int .i64 f2.k, .int .i64 f2.fr, .int .i64 f2.tt, .int .i64 f2.ep, .int .i64 f2.sq, .int .i64 f2.ac, .slice A2 n2 c2] 24)) (.cells #[.int .i64 at_, .int .u8 (t0 : Int), .int .u8 (t1 : Int), .int .u8 (t2 : Int), .int .u8 (t3 : Int)] 41)) hb1)
  clear RL RM RL2 RM2
  clear hb1
  have LO_F_3 : RowKit.Hid (w.heap.size ≤ w.heap.size) := Lib.hid (by omega)
  have LO_G_4 : RowKit.Hid (w.heap.size ≤ (w.heap.size + 1)) := Lib.hid (by omega)
  have NE_F_G : RowKit.Hid (w.heap.size ≠ (w.heap.size + 1)) := Lib.hid (by omega)
  have LO_X_5 : RowKit.Hid (w.heap.size ≤ (w.heap.size + 1 + 1)) := Lib.hid (by omega)
  have NE_F_X : RowKit.Hid (w.heap.size ≠ (w.heap.size + 1 + 1)) := Lib.hid (by omega)
  have NE_G_X : RowKit.Hid ((w.heap.size + 1) ≠ (w.heap.size + 1 + 1)) := Lib.hid (by omega)
  go_upto_region 2 with fail
  refine wp_region_lit ?_
  refine wpList_load_row rfl 24 (.tmp 3) rfl w.heap.size rfl 24 #[.int .i64 f.k, .int .i64 f.fr, .int .i64 f.tt, .int .i64 f.ep, .int .i64 f.sq, .int .i64 f.ac, .slice A n c] (0, 0) _ (F_2.out) Try.underlying24 rfl (by kernel_rfl) ?_
  simp only [Act.put, List.setIfInBounds_toArray, List.set_cons_zero, List.set_cons_succ]
  go_wp2_with fail
  refine (HF.out _ RL_2.out).mono ?_
  rintro e w6 ⟨rfl, hb6⟩
  have RL_7 := Lib.hid (RL_2.out.bl hb6)
  have RM_7 := Lib.hid (RM_2.out.bl hb6)
  have RL2_7 := Lib.hid (RL2_2.out.bl hb6)
  have RM2_7 := Lib.hid (RM2_2.out.bl hb6)
  have F_7 := Lib.hid (F_2.out.bl hb6)
  have G_7 := Lib.hid (G_2.out.bl hb6)
  have X_7 := Lib.hid (X_2.out.bl hb6)
  have Bel_7 := Lib.hid (bel_bl Bel_2.out hb6)
  clear RL_2 RM_2 RL2_2 RM2_2 F_2 G_2 X_2 Bel_2
  clear hb6
  rename_i hK
  refine hK _ _ ?_
  clear hK
  refine wpList_store_row rfl 24 (.tmp 3) (.tmp 22) rfl w.heap.size #[.int .i64 f.k, .int .i64 f.fr, .int .i64 f.tt, .int .i64 f.ep, .int .i64 f.sq, .int .i64 f.ac, .slice A M.length c] rfl rfl 24 #[.int .i64 f.k, .int .i64 f.fr, .int .i64 f.tt, .int .i64 f.ep, .int .i64 f.sq, .int .i64 f.ac, .slice A n c] (F_7.out) (by kernel_rfl) rfl (by simp [Value.oneCell']) ?_
  obtain ⟨v8, gv8⟩ : ∃ x, w6.setRow w.heap.size #[.int .i64 f.k, .int .i64 f.fr, .int .i64 f.tt, .int .i64 f.ep, .int .i64 f.sq, .int .i64 f.ac, .slice A M.length c] = x := ⟨_, rfl⟩
  have RL_8 := Lib.hid (show RdS v8 v8.heap.size _ _ _ _ _ from gv8 ▸ RdS.row_far RL_7.out (g := w.heap.size) (fun a ha hn e => by have h1 := LL.out a ha hn; have h2 := LO_F_3.out; have h3 := Option.some.inj e; omega) #[.int .i64 f.k, .int .i64 f.fr, .int .i64 f.tt, .int .i64 f.ep, .int .i64 f.sq, .int .i64 f.ac, .slice A M.length c])
  have RM_8 := Lib.hid (show RdS v8 v8.heap.size _ _ _ _ _ from gv8 ▸ RdS.row_far RM_7.out (g := w.heap.size) (fun a ha hn e => by have h1 := LM.out a ha hn; have h2 := LO_F_3.out; have h3 := Option.some.inj e; omega) #[.int .i64 f.k, .int .i64 f.fr, .int .i64 f.tt, .int .i64 f.ep, .int .i64 f.sq, .int .i64 f.ac, .slice A M.length c])
  have RL2_8 := Lib.hid (show RdS v8 v8.heap.size _ _ _ _ _ from gv8 ▸ RdS.row_far RL2_7.out (g := w.heap.size) (fun a ha hn e => by have h1 := LL2.out a ha hn; have h2 := LO_F_3.out; have h3 := Option.some.inj e; omega) #[.int .i64 f.k, .int .i64 f.fr, .int .i64 f.tt, .int .i64 f.ep, .int .i64 f.sq, .int .i64 f.ac, .slice A M.length c])
  have RM2_8 := Lib.hid (show RdS v8 v8.heap.size _ _ _ _ _ from gv8 ▸ RdS.row_far RM2_7.out (g := w.heap.size) (fun a ha hn e => by have h1 := LM2.out a ha hn; have h2 := LO_F_3.out; have h3 := Option.some.inj e; omega) #[.int .i64 f.k, .int .i64 f.fr, .int .i64 f.tt, .int .i64 f.ep, .int .i64 f.sq, .int .i64 f.ac, .slice A M.length c])
  have F_8 : RowKit.Hid (Whole v8 w.heap.size 24 [.int .i64 f.k, .int .i64 f.fr, .int .i64 f.tt, .int .i64 f.ep, .int .i64 f.sq, .int .i64 f.ac, .slice A M.length c]) := Lib.hid (gv8 ▸ Whole.row F_7.out [.int .i64 f.k, .int .i64 f.fr, .int .i64 f.tt, .int .i64 f.ep, .int .i64 f.sq, .int .i64 f.ac, .slice A M.length c])
  have G_8 := Lib.hid (show Whole v8 (w.heap.size + 1) _ _ from gv8 ▸ Whole.row_far G_7.out ((Ne.symm NE_F_G.out)) _)
  have X_8 := Lib.hid (show Whole v8 (w.heap.size + 1 + 1) _ _ from gv8 ▸ Whole.row_far X_7.out ((Ne.symm NE_F_X.out)) _)
  have Bel_8 : RowKit.Hid (Below w.heap.size w v8) := Lib.hid (gv8 ▸ below_row Bel_7.out LO_F_3.out _)
  rw [gv8]
  clear gv8
  clear RL_7 RM_7 RL2_7 RM2_7 F_7 G_7 X_7 Bel_7
  clear RL_8
  clear HF
  go_upto_region 3 with fail
  refine wp_region_lit ?_
  refine wpList_load_row rfl 24 (.tmp 4) rfl (w.heap.size + 1) rfl 24 #[.int .i64 f2.k, .int .i64 f2.fr, .int .i64 f2.tt, .int .i64 f2.ep, .int .i64 f2.sq, .int .i64 f2.ac, .slice A2 n2 c2] (0, 0) _ (G_8.out) Try.underlying24 rfl (by kernel_rfl) ?_
  simp only [Act.put, List.setIfInBounds_toArray, List.set_cons_zero, List.set_cons_succ]
  go_wp2_with fail
  refine (HF2.out _ RL2_8.out).mono ?_
  rintro e w9 ⟨rfl, hb9⟩
  have RM_10 := Lib.hid (RM_8.out.bl hb9)
  have RL2_10 := Lib.hid (RL2_8.out.bl hb9)
  have RM2_10 := Lib.hid (RM2_8.out.bl hb9)
  have F_10 := Lib.hid (F_8.out.bl hb9)
  have G_10 := Lib.hid (G_8.out.bl hb9)
  have X_10 := Lib.hid (X_8.out.bl hb9)
  have Bel_10 := Lib.hid (bel_bl Bel_8.out hb9)
  clear RM_8 RL2_8 RM2_8 F_8 G_8 X_8 Bel_8
  clear hb9
  rename_i hK
  refine hK _ _ ?_
  clear hK
  refine wpList_store_row rfl 24 (.tmp 4) (.tmp 24) rfl (w.heap.size + 1) #[.int .i64 f2.k, .int .i64 f2.fr, .int .i64 f2.tt, .int .i64 f2.ep, .int .i64 f2.sq, .int .i64 f2.ac, .slice A2 M2.length c2] rfl rfl 24 #[.int .i64 f2.k, .int .i64 f2.fr, .int .i64 f2.tt, .int .i64 f2.ep, .int .i64 f2.sq, .int .i64 f2.ac, .slice A2 n2 c2] (G_10.out) (by kernel_rfl) rfl (by simp [Value.oneCell']) ?_
  obtain ⟨v11, gv11⟩ : ∃ x, w9.setRow (w.heap.size + 1) #[.int .i64 f2.k, .int .i64 f2.fr, .int .i64 f2.tt, .int .i64 f2.ep, .int .i64 f2.sq, .int .i64 f2.ac, .slice A2 M2.length c2] = x := ⟨_, rfl⟩
  have RM_11 := Lib.hid (show RdS v11 v11.heap.size _ _ _ _ _ from gv11 ▸ RdS.row_far RM_10.out (g := (w.heap.size + 1)) (fun a ha hn e => by have h1 := LM.out a ha hn; have h2 := LO_G_4.out; have h3 := Option.some.inj e; omega) #[.int .i64 f2.k, .int .i64 f2.fr, .int .i64 f2.tt, .int .i64 f2.ep, .int .i64 f2.sq, .int .i64 f2.ac, .slice A2 M2.length c2])
  have RL2_11 := Lib.hid (show RdS v11 v11.heap.size _ _ _ _ _ from gv11 ▸ RdS.row_far RL2_10.out (g := (w.heap.size + 1)) (fun a ha hn e => by have h1 := LL2.out a ha hn; have h2 := LO_G_4.out; have h3 := Option.some.inj e; omega) #[.int .i64 f2.k, .int .i64 f2.fr, .int .i64 f2.tt, .int .i64 f2.ep, .int .i64 f2.sq, .int .i64 f2.ac, .slice A2 M2.length c2])
  have RM2_11 := Lib.hid (show RdS v11 v11.heap.size _ _ _ _ _ from gv11 ▸ RdS.row_far RM2_10.out (g := (w.heap.size + 1)) (fun a ha hn e => by have h1 := LM2.out a ha hn; have h2 := LO_G_4.out; have h3 := Option.some.inj e; omega) #[.int .i64 f2.k, .int .i64 f2.fr, .int .i64 f2.tt, .int .i64 f2.ep, .int .i64 f2.sq, .int .i64 f2.ac, .slice A2 M2.length c2])
  have F_11 := Lib.hid (show Whole v11 w.heap.size _ _ from gv11 ▸ Whole.row_far F_10.out (NE_F_G.out) _)
  have G_11 : RowKit.Hid (Whole v11 (w.heap.size + 1) 24 [.int .i64 f2.k, .int .i64 f2.fr, .int .i64 f2.tt, .int .i64 f2.ep, .int .i64 f2.sq, .int .i64 f2.ac, .slice A2 M2.length c2]) := Lib.hid (gv11 ▸ Whole.row G_10.out [.int .i64 f2.k, .int .i64 f2.fr, .int .i64 f2.tt, .int .i64 f2.ep, .int .i64 f2.sq, .int .i64 f2.ac, .slice A2 M2.length c2])
  have X_11 := Lib.hid (show Whole v11 (w.heap.size + 1 + 1) _ _ from gv11 ▸ Whole.row_far X_10.out ((Ne.symm NE_G_X.out)) _)
  have Bel_11 : RowKit.Hid (Below w.heap.size w v11) := Lib.hid (gv11 ▸ below_row Bel_10.out LO_G_4.out _)
  rw [gv11]
  clear gv11
  clear RM_10 RL2_10 RM2_10 F_10 G_10 X_10 Bel_10
  clear RL2_11
  clear HF2
  have lw12 : (v11).cell? ⟨w.heap.size, 6, none⟩ = some (.slice A M.length c) := F_11.out.cell (i := 6) rfl
  have lw13 : (v11).cell? ⟨(w.heap.size + 1), 6, none⟩ = some (.slice A2 M2.length c2) := G_11.out.cell (i := 6) rfl
  go_wp2
  go_ret
  exact ⟨rfl, Bel_11.out⟩

set_option maxRecDepth 100000 in
set_option maxHeartbeats 4000000 in
theorem back_not1 (f : FrT) (A : Option Addr) (n c : Nat) (L : List Nat) (f2 : FrT) (A2 : Option Addr) (n2 c2 : Nat) (L2 : List Nat) (at_ : Int) (t0 t1 t2 t3 : Nat) (w : World) (h : RdS w w.heap.size 1 A n c (rowsV f8 L)) (hb : ∀ b ∈ L, b < 256) (hn : n ≤ maxLen) (h2 : RdS w w.heap.size 1 A2 n2 c2 (rowsV f8 L2)) (hb2 : ∀ b ∈ L2, b < 256) (hn2 : n2 ≤ maxLen) (ht0 : t0 < 256) (ht1 : t1 < 256) (ht2 : t2 < 256) (ht3 : t3 < 256) (hM : ¬ 1000 < (L.take 16400).length) (hM2 : ¬ 1000 < (L2.take 16400).length) (hz : mayF f (L.take 16400).length ≠ 0) :
    Calls Try.prog 5 #[.agg #[.int .i64 f.k, .int .i64 f.fr, .int .i64 f.tt, .int .i64 f.ep, .int .i64 f.sq, .int .i64 f.ac, .slice A n c], .agg #[.int .i64 f2.k, .int .i64 f2.fr, .int .i64 f2.tt, .int .i64 f2.ep, .int .i64 f2.sq, .int .i64 f2.ac, .slice A2 n2 c2], .agg #[.int .i64 at_, .int .u8 (t0 : Int), .int .u8 (t1 : Int), .int .u8 (t2 : Int), .int .u8 (t3 : Int)]] w fun e w' => e = .returned (.bool true) ∧ Below w.heap.size w w' := by
  have hl := h.rlen f8_len (by decide)
  obtain ⟨M, gM⟩ : ∃ x, L.take 16400 = x := ⟨_, rfl⟩
  have hF := few15 f A n c L
  have hRM := h.fewer8 16400
  rw [gM] at hF hRM
  have HbM : RowKit.Hid (∀ b ∈ M, b < 256) := Lib.hid (gM ▸ fun b h => hb b (List.mem_of_mem_take h))
  have hM16 : M.length ≤ 16400 := by rw [← gM, List.length_take]; omega
  have HF : RowKit.Hid _ := Lib.hid (fun w' (h' : RdS w' w'.heap.size 1 A n c (rowsV f8 L)) => hF w' h' hn)
  have RM := Lib.hid hRM
  have LM : RowKit.Hid (∀ a, A = some a → 0 < M.length → a.block < w.heap.size) := Lib.hid hRM.low
  have RL := Lib.hid h
  have LL : RowKit.Hid (∀ a, A = some a → 0 < n → a.block < w.heap.size) := Lib.hid h.low
  clear hF hRM h hb hn hl
  have hl2 := h2.rlen f8_len (by decide)
  obtain ⟨M2, gM2⟩ : ∃ x, L2.take 16400 = x := ⟨_, rfl⟩
  have hF2 := few15 f2 A2 n2 c2 L2
  have hRM2 := h2.fewer8 16400
  rw [gM2] at hF2 hRM2
  have HbM2 : RowKit.Hid (∀ b ∈ M2, b < 256) := Lib.hid (gM2 ▸ fun b h => hb2 b (List.mem_of_mem_take h))
  have hM162 : M2.length ≤ 16400 := by rw [← gM2, List.length_take]; omega
  have HF2 : RowKit.Hid _ := Lib.hid (fun w' (h' : RdS w' w'.heap.size 1 A2 n2 c2 (rowsV f8 L2)) => hF2 w' h' hn2)
  have RM2 := Lib.hid hRM2
  have LM2 : RowKit.Hid (∀ a, A2 = some a → 0 < M2.length → a.block < w.heap.size) := Lib.hid hRM2.low
  have RL2 := Lib.hid h2
  have LL2 : RowKit.Hid (∀ a, A2 = some a → 0 < n2 → a.block < w.heap.size) := Lib.hid h2.low
  clear hF2 hRM2 h2 hb2 hn2 hl2
  try rw [gM] at hM
  try rw [gM2] at hM2
  try rw [gM] at hz
  try rw [gM2] at hz2
  try rw [gM] at hat
  have hM1 : decide ((1000 : Int) < (M.length : Int)) = false := by first | exact decide_eq_true (by omega) | exact decide_eq_false (by omega)
  have hM12 : decide ((1000 : Int) < (M2.length : Int)) = false := by first | exact decide_eq_true (by omega) | exact decide_eq_false (by omega)
  have hPo := fun W => put_not f A M.length c W hz
  obtain ⟨z, gz⟩ : ∃ x, mayF f M.length = x := ⟨_, rfl⟩
  rw [gz] at hPo hz
  have q : (z == 0) = false := beq_eq_false_iff_ne.2 hz
  have q' : (z != 0) = true := bne_iff_ne.2 hz
  have HPo := Lib.hid hPo
  clear gz hz hPo
  have HPg := Lib.hid (fun W hr => puts_to f2 A2 c2 M2 W hr HbM2.out)
  obtain ⟨z2, gz2⟩ : ∃ x, mayF f2 M2.length = x := ⟨_, rfl⟩
  rw [gz2] at HPg
  clear gz2
  clear gM gM2
  unfold frCells at HF HF2
  go_enter Try.func5, Try.ntmps5
  go_wp2_with fail
  refine (shown15 _).mono ?_
  rintro e w1 ⟨rfl, hb1⟩
  have RL_2 := Lib.hid ((((RL.out.al (.cells #[.int .i64 f.k, .int .i64 f.fr, .int .i64 f.tt, .int .i64 f.ep, .int .i64 f.sq, .int .i64 f.ac, .slice A n c] 24)).al (.cells #[.int .i64 f2.k, .int .i64 f2.fr, .int .i64 f2.tt, .int .i64 f2.ep, .int .i64 f2.sq, .int .i64 f2.ac, .slice A2 n2 c2] 24)).al (.cells #[.int .i64 at_, .int .u8 (t0 : Int), .int .u8 (t1 : Int), .int .u8 (t2 : Int), .int .u8 (t3 : Int)] 41)).bl hb1)
  have RM_2 := Lib.hid ((((RM.out.al (.cells #[.int .i64 f.k, .int .i64 f.fr, .int .i64 f.tt, .int .i64 f.ep, .int .i64 f.sq, .int .i64 f.ac, .slice A n c] 24)).al (.cells #[.int .i64 f2.k, .int .i64 f2.fr, .int .i64 f2.tt, .int .i64 f2.ep, .int .i64 f2.sq, .int .i64 f2.ac, .slice A2 n2 c2] 24)).al (.cells #[.int .i64 at_, .int .u8 (t0 : Int), .int .u8 (t1 : Int), .int .u8 (t2 : Int), .int .u8 (t3 : Int)] 41)).bl hb1)
  have RL2_2 := Lib.hid ((((RL2.out.al (.cells #[.int .i64 f.k, .int .i64 f.fr, .int .i64 f.tt, .int .i64 f.ep, .int .i64 f.sq, .int .i64 f.ac, .slice A n c] 24)).al (.cells #[.int .i64 f2.k, .int .i64 f2.fr, .int .i64 f2.tt, .int .i64 f2.ep, .int .i64 f2.sq, .int .i64 f2.ac, .slice A2 n2 c2] 24)).al (.cells #[.int .i64 at_, .int .u8 (t0 : Int), .int .u8 (t1 : Int), .int .u8 (t2 : Int), .int .u8 (t3 : Int)] 41)).bl hb1)
  have RM2_2 := Lib.hid ((((RM2.out.al (.cells #[.int .i64 f.k, .int .i64 f.fr, .int .i64 f.tt, .int .i64 f.ep, .int .i64 f.sq, .int .i64 f.ac, .slice A n c] 24)).al (.cells #[.int .i64 f2.k, .int .i64 f2.fr, .int .i64 f2.tt, .int .i64 f2.ep, .int .i64 f2.sq, .int .i64 f2.ac, .slice A2 n2 c2] 24)).al (.cells #[.int .i64 at_, .int .u8 (t0 : Int), .int .u8 (t1 : Int), .int .u8 (t2 : Int), .int .u8 (t3 : Int)] 41)).bl hb1)
  have F_2 := Lib.hid ((((show Whole (w.alloc (.cells #[.int .i64 f.k, .int .i64 f.fr, .int .i64 f.tt, .int .i64 f.ep, .int .i64 f.sq, .int .i64 f.ac, .slice A n c] 24)) (w.heap.size) (24) ([.int .i64 f.k, .int .i64 f.fr, .int .i64 f.tt, .int .i64 f.ep, .int .i64 f.sq, .int .i64 f.ac, .slice A n c]) from Whole.new2 (by first | rfl | simp)).al (.cells #[.int .i64 f2.k, .int .i64 f2.fr, .int .i64 f2.tt, .int .i64 f2.ep, .int .i64 f2.sq, .int .i64 f2.ac, .slice A2 n2 c2] 24)).al (.cells #[.int .i64 at_, .int .u8 (t0 : Int), .int .u8 (t1 : Int), .int .u8 (t2 : Int), .int .u8 (t3 : Int)] 41)).bl hb1)
  have G_2 := Lib.hid (((show Whole ((w.alloc (.cells #[.int .i64 f.k, .int .i64 f.fr, .int .i64 f.tt, .int .i64 f.ep, .int .i64 f.sq, .int .i64 f.ac, .slice A n c] 24)).alloc (.cells #[.int .i64 f2.k, .int .i64 f2.fr, .int .i64 f2.tt, .int .i64 f2.ep, .int .i64 f2.sq, .int .i64 f2.ac, .slice A2 n2 c2] 24)) ((w.heap.size + 1)) (24) ([.int .i64 f2.k, .int .i64 f2.fr, .int .i64 f2.tt, .int .i64 f2.ep, .int .i64 f2.sq, .int .i64 f2.ac, .slice A2 n2 c2]) from Whole.new2 (by first | rfl | simp)).al (.cells #[.int .i64 at_, .int .u8 (t0 : Int), .int .u8 (t1 : Int), .int .u8 (t2 : Int), .int .u8 (t3 : Int)] 41)).bl hb1)
  have X_2 := Lib.hid ((show Whole (((w.alloc (.cells #[.int .i64 f.k, .int .i64 f.fr, .int .i64 f.tt, .int .i64 f.ep, .int .i64 f.sq, .int .i64 f.ac, .slice A n c] 24)).alloc (.cells #[.int .i64 f2.k, .int .i64 f2.fr, .int .i64 f2.tt, .int .i64 f2.ep, .int .i64 f2.sq, .int .i64 f2.ac, .slice A2 n2 c2] 24)).alloc (.cells #[.int .i64 at_, .int .u8 (t0 : Int), .int .u8 (t1 : Int), .int .u8 (t2 : Int), .int .u8 (t3 : Int)] 41)) ((w.heap.size + 1 + 1)) (41) ([.int .i64 at_, .int .u8 (t0 : Int), .int .u8 (t1 : Int), .int .u8 (t2 : Int), .int .u8 (t3 : Int)]) from Whole.new2 (by first | rfl | simp)).bl hb1)
  have Bel_2 := Lib.hid (bel_bl (bel_al (bel_al (bel_al (Below.refl _ w) (.cells #[.int .i64 f.k, .int .i64 f.fr, .int .i64 f.tt, .int .i64 f.ep, .int .i64 f.sq, .int .i64 f.ac, .slice A n c] 24)) (.cells #[.int .i64 f2.k, .int .i64 f2.fr, .int .i64 f2.tt, .int .i64 f2.ep, .int .i64 f2.sq, .int .i64 f2.ac, .slice A2 n2 c2] 24)) (.cells #[.int .i64 at_, .int .u8 (t0 : Int), .int .u8 (t1 : Int), .int .u8 (t2 : Int), .int .u8 (t3 : Int)] 41)) hb1)
  clear RL RM RL2 RM2
  clear hb1
  have LO_F_3 : RowKit.Hid (w.heap.size ≤ w.heap.size) := Lib.hid (by omega)
  have LO_G_4 : RowKit.Hid (w.heap.size ≤ (w.heap.size + 1)) := Lib.hid (by omega)
  have NE_F_G : RowKit.Hid (w.heap.size ≠ (w.heap.size + 1)) := Lib.hid (by omega)
  have LO_X_5 : RowKit.Hid (w.heap.size ≤ (w.heap.size + 1 + 1)) := Lib.hid (by omega)
  have NE_F_X : RowKit.Hid (w.heap.size ≠ (w.heap.size + 1 + 1)) := Lib.hid (by omega)
  have NE_G_X : RowKit.Hid ((w.heap.size + 1) ≠ (w.heap.size + 1 + 1)) := Lib.hid (by omega)
  go_upto_region 2 with fail
  refine wp_region_lit ?_
  refine wpList_load_row rfl 24 (.tmp 3) rfl w.heap.size rfl 24 #[.int .i64 f.k, .int .i64 f.fr, .int .i64 f.tt, .int .i64 f.ep, .int .i64 f.sq, .int .i64 f.ac, .slice A n c] (0, 0) _ (F_2.out) Try.underlying24 rfl (by kernel_rfl) ?_
  simp only [Act.put, List.setIfInBounds_toArray, List.set_cons_zero, List.set_cons_succ]
  go_wp2_with fail
  refine (HF.out _ RL_2.out).mono ?_
  rintro e w6 ⟨rfl, hb6⟩
  have RL_7 := Lib.hid (RL_2.out.bl hb6)
  have RM_7 := Lib.hid (RM_2.out.bl hb6)
  have RL2_7 := Lib.hid (RL2_2.out.bl hb6)
  have RM2_7 := Lib.hid (RM2_2.out.bl hb6)
  have F_7 := Lib.hid (F_2.out.bl hb6)
  have G_7 := Lib.hid (G_2.out.bl hb6)
  have X_7 := Lib.hid (X_2.out.bl hb6)
  have Bel_7 := Lib.hid (bel_bl Bel_2.out hb6)
  clear RL_2 RM_2 RL2_2 RM2_2 F_2 G_2 X_2 Bel_2
  clear hb6
  rename_i hK
  refine hK _ _ ?_
  clear hK
  refine wpList_store_row rfl 24 (.tmp 3) (.tmp 22) rfl w.heap.size #[.int .i64 f.k, .int .i64 f.fr, .int .i64 f.tt, .int .i64 f.ep, .int .i64 f.sq, .int .i64 f.ac, .slice A M.length c] rfl rfl 24 #[.int .i64 f.k, .int .i64 f.fr, .int .i64 f.tt, .int .i64 f.ep, .int .i64 f.sq, .int .i64 f.ac, .slice A n c] (F_7.out) (by kernel_rfl) rfl (by simp [Value.oneCell']) ?_
  obtain ⟨v8, gv8⟩ : ∃ x, w6.setRow w.heap.size #[.int .i64 f.k, .int .i64 f.fr, .int .i64 f.tt, .int .i64 f.ep, .int .i64 f.sq, .int .i64 f.ac, .slice A M.length c] = x := ⟨_, rfl⟩
  have RL_8 := Lib.hid (show RdS v8 v8.heap.size _ _ _ _ _ from gv8 ▸ RdS.row_far RL_7.out (g := w.heap.size) (fun a ha hn e => by have h1 := LL.out a ha hn; have h2 := LO_F_3.out; have h3 := Option.some.inj e; omega) #[.int .i64 f.k, .int .i64 f.fr, .int .i64 f.tt, .int .i64 f.ep, .int .i64 f.sq, .int .i64 f.ac, .slice A M.length c])
  have RM_8 := Lib.hid (show RdS v8 v8.heap.size _ _ _ _ _ from gv8 ▸ RdS.row_far RM_7.out (g := w.heap.size) (fun a ha hn e => by have h1 := LM.out a ha hn; have h2 := LO_F_3.out; have h3 := Option.some.inj e; omega) #[.int .i64 f.k, .int .i64 f.fr, .int .i64 f.tt, .int .i64 f.ep, .int .i64 f.sq, .int .i64 f.ac, .slice A M.length c])
  have RL2_8 := Lib.hid (show RdS v8 v8.heap.size _ _ _ _ _ from gv8 ▸ RdS.row_far RL2_7.out (g := w.heap.size) (fun a ha hn e => by have h1 := LL2.out a ha hn; have h2 := LO_F_3.out; have h3 := Option.some.inj e; omega) #[.int .i64 f.k, .int .i64 f.fr, .int .i64 f.tt, .int .i64 f.ep, .int .i64 f.sq, .int .i64 f.ac, .slice A M.length c])
  have RM2_8 := Lib.hid (show RdS v8 v8.heap.size _ _ _ _ _ from gv8 ▸ RdS.row_far RM2_7.out (g := w.heap.size) (fun a ha hn e => by have h1 := LM2.out a ha hn; have h2 := LO_F_3.out; have h3 := Option.some.inj e; omega) #[.int .i64 f.k, .int .i64 f.fr, .int .i64 f.tt, .int .i64 f.ep, .int .i64 f.sq, .int .i64 f.ac, .slice A M.length c])
  have F_8 : RowKit.Hid (Whole v8 w.heap.size 24 [.int .i64 f.k, .int .i64 f.fr, .int .i64 f.tt, .int .i64 f.ep, .int .i64 f.sq, .int .i64 f.ac, .slice A M.length c]) := Lib.hid (gv8 ▸ Whole.row F_7.out [.int .i64 f.k, .int .i64 f.fr, .int .i64 f.tt, .int .i64 f.ep, .int .i64 f.sq, .int .i64 f.ac, .slice A M.length c])
  have G_8 := Lib.hid (show Whole v8 (w.heap.size + 1) _ _ from gv8 ▸ Whole.row_far G_7.out ((Ne.symm NE_F_G.out)) _)
  have X_8 := Lib.hid (show Whole v8 (w.heap.size + 1 + 1) _ _ from gv8 ▸ Whole.row_far X_7.out ((Ne.symm NE_F_X.out)) _)
  have Bel_8 : RowKit.Hid (Below w.heap.size w v8) := Lib.hid (gv8 ▸ below_row Bel_7.out LO_F_3.out _)
  rw [gv8]
  clear gv8
  clear RL_7 RM_7 RL2_7 RM2_7 F_7 G_7 X_7 Bel_7
  clear RL_8
  clear HF
  go_upto_region 3 with fail
  refine wp_region_lit ?_
  refine wpList_load_row rfl 24 (.tmp 4) rfl (w.heap.size + 1) rfl 24 #[.int .i64 f2.k, .int .i64 f2.fr, .int .i64 f2.tt, .int .i64 f2.ep, .int .i64 f2.sq, .int .i64 f2.ac, .slice A2 n2 c2] (0, 0) _ (G_8.out) Try.underlying24 rfl (by kernel_rfl) ?_
  simp only [Act.put, List.setIfInBounds_toArray, List.set_cons_zero, List.set_cons_succ]
  go_wp2_with fail
  refine (HF2.out _ RL2_8.out).mono ?_
  rintro e w9 ⟨rfl, hb9⟩
  have RM_10 := Lib.hid (RM_8.out.bl hb9)
  have RL2_10 := Lib.hid (RL2_8.out.bl hb9)
  have RM2_10 := Lib.hid (RM2_8.out.bl hb9)
  have F_10 := Lib.hid (F_8.out.bl hb9)
  have G_10 := Lib.hid (G_8.out.bl hb9)
  have X_10 := Lib.hid (X_8.out.bl hb9)
  have Bel_10 := Lib.hid (bel_bl Bel_8.out hb9)
  clear RM_8 RL2_8 RM2_8 F_8 G_8 X_8 Bel_8
  clear hb9
  rename_i hK
  refine hK _ _ ?_
  clear hK
  refine wpList_store_row rfl 24 (.tmp 4) (.tmp 24) rfl (w.heap.size + 1) #[.int .i64 f2.k, .int .i64 f2.fr, .int .i64 f2.tt, .int .i64 f2.ep, .int .i64 f2.sq, .int .i64 f2.ac, .slice A2 M2.length c2] rfl rfl 24 #[.int .i64 f2.k, .int .i64 f2.fr, .int .i64 f2.tt, .int .i64 f2.ep, .int .i64 f2.sq, .int .i64 f2.ac, .slice A2 n2 c2] (G_10.out) (by kernel_rfl) rfl (by simp [Value.oneCell']) ?_
  obtain ⟨v11, gv11⟩ : ∃ x, w9.setRow (w.heap.size + 1) #[.int .i64 f2.k, .int .i64 f2.fr, .int .i64 f2.tt, .int .i64 f2.ep, .int .i64 f2.sq, .int .i64 f2.ac, .slice A2 M2.length c2] = x := ⟨_, rfl⟩
  have RM_11 := Lib.hid (show RdS v11 v11.heap.size _ _ _ _ _ from gv11 ▸ RdS.row_far RM_10.out (g := (w.heap.size + 1)) (fun a ha hn e => by have h1 := LM.out a ha hn; have h2 := LO_G_4.out; have h3 := Option.some.inj e; omega) #[.int .i64 f2.k, .int .i64 f2.fr, .int .i64 f2.tt, .int .i64 f2.ep, .int .i64 f2.sq, .int .i64 f2.ac, .slice A2 M2.length c2])
  have RL2_11 := Lib.hid (show RdS v11 v11.heap.size _ _ _ _ _ from gv11 ▸ RdS.row_far RL2_10.out (g := (w.heap.size + 1)) (fun a ha hn e => by have h1 := LL2.out a ha hn; have h2 := LO_G_4.out; have h3 := Option.some.inj e; omega) #[.int .i64 f2.k, .int .i64 f2.fr, .int .i64 f2.tt, .int .i64 f2.ep, .int .i64 f2.sq, .int .i64 f2.ac, .slice A2 M2.length c2])
  have RM2_11 := Lib.hid (show RdS v11 v11.heap.size _ _ _ _ _ from gv11 ▸ RdS.row_far RM2_10.out (g := (w.heap.size + 1)) (fun a ha hn e => by have h1 := LM2.out a ha hn; have h2 := LO_G_4.out; have h3 := Option.some.inj e; omega) #[.int .i64 f2.k, .int .i64 f2.fr, .int .i64 f2.tt, .int .i64 f2.ep, .int .i64 f2.sq, .int .i64 f2.ac, .slice A2 M2.length c2])
  have F_11 := Lib.hid (show Whole v11 w.heap.size _ _ from gv11 ▸ Whole.row_far F_10.out (NE_F_G.out) _)
  have G_11 : RowKit.Hid (Whole v11 (w.heap.size + 1) 24 [.int .i64 f2.k, .int .i64 f2.fr, .int .i64 f2.tt, .int .i64 f2.ep, .int .i64 f2.sq, .int .i64 f2.ac, .slice A2 M2.length c2]) := Lib.hid (gv11 ▸ Whole.row G_10.out [.int .i64 f2.k, .int .i64 f2.fr, .int .i64 f2.tt, .int .i64 f2.ep, .int .i64 f2.sq, .int .i64 f2.ac, .slice A2 M2.length c2])
  have X_11 := Lib.hid (show Whole v11 (w.heap.size + 1 + 1) _ _ from gv11 ▸ Whole.row_far X_10.out ((Ne.symm NE_G_X.out)) _)
  have Bel_11 : RowKit.Hid (Below w.heap.size w v11) := Lib.hid (gv11 ▸ below_row Bel_10.out LO_G_4.out _)
  rw [gv11]
  clear gv11
  clear RM_10 RL2_10 RM2_10 F_10 G_10 X_10 Bel_10
  clear RL2_11
  clear HF2
  have lw12 : (v11).cell? ⟨w.heap.size, 6, none⟩ = some (.slice A M.length c) := F_11.out.cell (i := 6) rfl
  have lw13 : (v11).cell? ⟨(w.heap.size + 1), 6, none⟩ = some (.slice A2 M2.length c2) := G_11.out.cell (i := 6) rfl
  go_upto_region 6 with fail
  clear hM1 hM12 lw12 lw13
  refine wp_region_lit ?_
  refine wpList_load_row rfl 24 (.tmp 3) rfl w.heap.size rfl 24 #[.int .i64 f.k, .int .i64 f.fr, .int .i64 f.tt, .int .i64 f.ep, .int .i64 f.sq, .int .i64 f.ac, .slice A M.length c] (0, 0) _ (F_11.out) Try.underlying24 rfl (by kernel_rfl) ?_
  simp only [Act.put, List.setIfInBounds_toArray, List.set_cons_zero, List.set_cons_succ]
  have HPc := Lib.hid (HPo.out v11 )
  unfold frCells at HPc
  go_wp2_with fail
  refine HPc.out.mono ?_
  rintro e wp3 ⟨rfl, hb3⟩
  have RM_14 := Lib.hid (RM_11.out.bl hb3)
  have RM2_14 := Lib.hid (RM2_11.out.bl hb3)
  have F_14 := Lib.hid (F_11.out.bl hb3)
  have G_14 := Lib.hid (G_11.out.bl hb3)
  have X_14 := Lib.hid (X_11.out.bl hb3)
  have Bel_14 := Lib.hid (bel_bl Bel_11.out hb3)
  clear RM_11 RM2_11 F_11 G_11 X_11 Bel_11
  clear hb3 HPc
  go_upto_region 7 with fail
  refine wp_region_lit ?_
  refine wpList_load_row rfl 24 (.tmp 4) rfl (w.heap.size + 1) rfl 24 #[.int .i64 f2.k, .int .i64 f2.fr, .int .i64 f2.tt, .int .i64 f2.ep, .int .i64 f2.sq, .int .i64 f2.ac, .slice A2 M2.length c2] (0, 0) _ (G_14.out) Try.underlying24 rfl (by kernel_rfl) ?_
  simp only [Act.put, List.setIfInBounds_toArray, List.set_cons_zero, List.set_cons_succ]
  have HPc := Lib.hid (HPg.out wp3 RM2_14.out)
  unfold frCells at HPc
  go_wp2_with fail
  refine HPc.out.mono ?_
  rintro e wp4 ⟨Ap, np, cp, rfl, hp, hb4⟩
  have RM_15 := Lib.hid (RM_14.out.bl hb4)
  have RM2_15 := Lib.hid (RM2_14.out.bl hb4)
  have F_15 := Lib.hid (F_14.out.bl hb4)
  have G_15 := Lib.hid (G_14.out.bl hb4)
  have X_15 := Lib.hid (X_14.out.bl hb4)
  have Bel_15 := Lib.hid (bel_bl Bel_14.out hb4)
  clear RM_14 RM2_14 F_14 G_14 X_14 Bel_14
  have RP := Lib.hid hp
  clear hb4 HPc HPg hp
  go_wp2
  go_ret
  exact ⟨rfl, Bel_15.out⟩

set_option maxRecDepth 100000 in
set_option maxHeartbeats 4000000 in
theorem back_not2 (f : FrT) (A : Option Addr) (n c : Nat) (L : List Nat) (f2 : FrT) (A2 : Option Addr) (n2 c2 : Nat) (L2 : List Nat) (at_ : Int) (t0 t1 t2 t3 : Nat) (w : World) (h : RdS w w.heap.size 1 A n c (rowsV f8 L)) (hb : ∀ b ∈ L, b < 256) (hn : n ≤ maxLen) (h2 : RdS w w.heap.size 1 A2 n2 c2 (rowsV f8 L2)) (hb2 : ∀ b ∈ L2, b < 256) (hn2 : n2 ≤ maxLen) (ht0 : t0 < 256) (ht1 : t1 < 256) (ht2 : t2 < 256) (ht3 : t3 < 256) (hM : ¬ 1000 < (L.take 16400).length) (hM2 : ¬ 1000 < (L2.take 16400).length) (hz : mayF f (L.take 16400).length = 0) (hz2 : mayF f2 (L2.take 16400).length ≠ 0) :
    Calls Try.prog 5 #[.agg #[.int .i64 f.k, .int .i64 f.fr, .int .i64 f.tt, .int .i64 f.ep, .int .i64 f.sq, .int .i64 f.ac, .slice A n c], .agg #[.int .i64 f2.k, .int .i64 f2.fr, .int .i64 f2.tt, .int .i64 f2.ep, .int .i64 f2.sq, .int .i64 f2.ac, .slice A2 n2 c2], .agg #[.int .i64 at_, .int .u8 (t0 : Int), .int .u8 (t1 : Int), .int .u8 (t2 : Int), .int .u8 (t3 : Int)]] w fun e w' => e = .returned (.bool true) ∧ Below w.heap.size w w' := by
  have hl := h.rlen f8_len (by decide)
  obtain ⟨M, gM⟩ : ∃ x, L.take 16400 = x := ⟨_, rfl⟩
  have hF := few15 f A n c L
  have hRM := h.fewer8 16400
  rw [gM] at hF hRM
  have HbM : RowKit.Hid (∀ b ∈ M, b < 256) := Lib.hid (gM ▸ fun b h => hb b (List.mem_of_mem_take h))
  have hM16 : M.length ≤ 16400 := by rw [← gM, List.length_take]; omega
  have HF : RowKit.Hid _ := Lib.hid (fun w' (h' : RdS w' w'.heap.size 1 A n c (rowsV f8 L)) => hF w' h' hn)
  have RM := Lib.hid hRM
  have LM : RowKit.Hid (∀ a, A = some a → 0 < M.length → a.block < w.heap.size) := Lib.hid hRM.low
  have RL := Lib.hid h
  have LL : RowKit.Hid (∀ a, A = some a → 0 < n → a.block < w.heap.size) := Lib.hid h.low
  clear hF hRM h hb hn hl
  have hl2 := h2.rlen f8_len (by decide)
  obtain ⟨M2, gM2⟩ : ∃ x, L2.take 16400 = x := ⟨_, rfl⟩
  have hF2 := few15 f2 A2 n2 c2 L2
  have hRM2 := h2.fewer8 16400
  rw [gM2] at hF2 hRM2
  have HbM2 : RowKit.Hid (∀ b ∈ M2, b < 256) := Lib.hid (gM2 ▸ fun b h => hb2 b (List.mem_of_mem_take h))
  have hM162 : M2.length ≤ 16400 := by rw [← gM2, List.length_take]; omega
  have HF2 : RowKit.Hid _ := Lib.hid (fun w' (h' : RdS w' w'.heap.size 1 A2 n2 c2 (rowsV f8 L2)) => hF2 w' h' hn2)
  have RM2 := Lib.hid hRM2
  have LM2 : RowKit.Hid (∀ a, A2 = some a → 0 < M2.length → a.block < w.heap.size) := Lib.hid hRM2.low
  have RL2 := Lib.hid h2
  have LL2 : RowKit.Hid (∀ a, A2 = some a → 0 < n2 → a.block < w.heap.size) := Lib.hid h2.low
  clear hF2 hRM2 h2 hb2 hn2 hl2
  try rw [gM] at hM
  try rw [gM2] at hM2
  try rw [gM] at hz
  try rw [gM2] at hz2
  try rw [gM] at hat
  have hM1 : decide ((1000 : Int) < (M.length : Int)) = false := by first | exact decide_eq_true (by omega) | exact decide_eq_false (by omega)
  have hM12 : decide ((1000 : Int) < (M2.length : Int)) = false := by first | exact decide_eq_true (by omega) | exact decide_eq_false (by omega)
  obtain ⟨nP, gnP⟩ : ∃ x, (putF f M).length = x := ⟨_, rfl⟩
  have HPo : RowKit.Hid (∀ W, RdS W W.heap.size 1 A M.length c (rowsV f8 M) → Calls Try.prog 11 #[.agg (frCells f A M.length c).toArray] W fun e w' => ∃ A' c', e = .returned (.tuple #[.slice A' nP c', .int .i64 0]) ∧ w'.ownsRow W.heap.size 5 1 (.slice A' nP c') nP (rowsV f8 (putF f M)) ∧ Below W.heap.size W w') := Lib.hid (fun W hr => by rw [← gnP]; exact put_own f A M.length c M W hz hr HbM.out)
  have HTP := Lib.hid (fun A1 c1 W (h : RdS W W.heap.size 1 A1 nP c1 (rowsV f8 (putF f M))) => take_t A1 nP c1 (putF f M) W f M 0 (take_of_put hz) h (putF_lt hz HbM.out) (by rw [← gnP, putF_len]; omega))
  have HPl : RowKit.Hid (nP = 19 + M.length) := Lib.hid (by rw [← gnP, putF_len])
  have HgP := Lib.hid gnP
  have Hz := Lib.hid hz
  have HM := Lib.hid hM
  have HPg := Lib.hid (fun W hr => puts_to f2 A2 c2 M2 W hr HbM2.out)
  obtain ⟨z2, gz2⟩ : ∃ x, mayF f2 M2.length = x := ⟨_, rfl⟩
  rw [gz2] at HPg hz2
  have q2 : (z2 == 0) = false := beq_eq_false_iff_ne.2 hz2
  have q2' : (z2 != 0) = true := bne_iff_ne.2 hz2
  clear gz2 hz2
  clear hz gnP
  clear gM gM2
  unfold frCells at HF HF2
  go_enter Try.func5, Try.ntmps5
  go_wp2_with fail
  refine (shown15 _).mono ?_
  rintro e w1 ⟨rfl, hb1⟩
  have RL_2 := Lib.hid ((((RL.out.al (.cells #[.int .i64 f.k, .int .i64 f.fr, .int .i64 f.tt, .int .i64 f.ep, .int .i64 f.sq, .int .i64 f.ac, .slice A n c] 24)).al (.cells #[.int .i64 f2.k, .int .i64 f2.fr, .int .i64 f2.tt, .int .i64 f2.ep, .int .i64 f2.sq, .int .i64 f2.ac, .slice A2 n2 c2] 24)).al (.cells #[.int .i64 at_, .int .u8 (t0 : Int), .int .u8 (t1 : Int), .int .u8 (t2 : Int), .int .u8 (t3 : Int)] 41)).bl hb1)
  have RM_2 := Lib.hid ((((RM.out.al (.cells #[.int .i64 f.k, .int .i64 f.fr, .int .i64 f.tt, .int .i64 f.ep, .int .i64 f.sq, .int .i64 f.ac, .slice A n c] 24)).al (.cells #[.int .i64 f2.k, .int .i64 f2.fr, .int .i64 f2.tt, .int .i64 f2.ep, .int .i64 f2.sq, .int .i64 f2.ac, .slice A2 n2 c2] 24)).al (.cells #[.int .i64 at_, .int .u8 (t0 : Int), .int .u8 (t1 : Int), .int .u8 (t2 : Int), .int .u8 (t3 : Int)] 41)).bl hb1)
  have RL2_2 := Lib.hid ((((RL2.out.al (.cells #[.int .i64 f.k, .int .i64 f.fr, .int .i64 f.tt, .int .i64 f.ep, .int .i64 f.sq, .int .i64 f.ac, .slice A n c] 24)).al (.cells #[.int .i64 f2.k, .int .i64 f2.fr, .int .i64 f2.tt, .int .i64 f2.ep, .int .i64 f2.sq, .int .i64 f2.ac, .slice A2 n2 c2] 24)).al (.cells #[.int .i64 at_, .int .u8 (t0 : Int), .int .u8 (t1 : Int), .int .u8 (t2 : Int), .int .u8 (t3 : Int)] 41)).bl hb1)
  have RM2_2 := Lib.hid ((((RM2.out.al (.cells #[.int .i64 f.k, .int .i64 f.fr, .int .i64 f.tt, .int .i64 f.ep, .int .i64 f.sq, .int .i64 f.ac, .slice A n c] 24)).al (.cells #[.int .i64 f2.k, .int .i64 f2.fr, .int .i64 f2.tt, .int .i64 f2.ep, .int .i64 f2.sq, .int .i64 f2.ac, .slice A2 n2 c2] 24)).al (.cells #[.int .i64 at_, .int .u8 (t0 : Int), .int .u8 (t1 : Int), .int .u8 (t2 : Int), .int .u8 (t3 : Int)] 41)).bl hb1)
  have F_2 := Lib.hid ((((show Whole (w.alloc (.cells #[.int .i64 f.k, .int .i64 f.fr, .int .i64 f.tt, .int .i64 f.ep, .int .i64 f.sq, .int .i64 f.ac, .slice A n c] 24)) (w.heap.size) (24) ([.int .i64 f.k, .int .i64 f.fr, .int .i64 f.tt, .int .i64 f.ep, .int .i64 f.sq, .int .i64 f.ac, .slice A n c]) from Whole.new2 (by first | rfl | simp)).al (.cells #[.int .i64 f2.k, .int .i64 f2.fr, .int .i64 f2.tt, .int .i64 f2.ep, .int .i64 f2.sq, .int .i64 f2.ac, .slice A2 n2 c2] 24)).al (.cells #[.int .i64 at_, .int .u8 (t0 : Int), .int .u8 (t1 : Int), .int .u8 (t2 : Int), .int .u8 (t3 : Int)] 41)).bl hb1)
  have G_2 := Lib.hid (((show Whole ((w.alloc (.cells #[.int .i64 f.k, .int .i64 f.fr, .int .i64 f.tt, .int .i64 f.ep, .int .i64 f.sq, .int .i64 f.ac, .slice A n c] 24)).alloc (.cells #[.int .i64 f2.k, .int .i64 f2.fr, .int .i64 f2.tt, .int .i64 f2.ep, .int .i64 f2.sq, .int .i64 f2.ac, .slice A2 n2 c2] 24)) ((w.heap.size + 1)) (24) ([.int .i64 f2.k, .int .i64 f2.fr, .int .i64 f2.tt, .int .i64 f2.ep, .int .i64 f2.sq, .int .i64 f2.ac, .slice A2 n2 c2]) from Whole.new2 (by first | rfl | simp)).al (.cells #[.int .i64 at_, .int .u8 (t0 : Int), .int .u8 (t1 : Int), .int .u8 (t2 : Int), .int .u8 (t3 : Int)] 41)).bl hb1)
  have X_2 := Lib.hid ((show Whole (((w.alloc (.cells #[.int .i64 f.k, .int .i64 f.fr, .int .i64 f.tt, .int .i64 f.ep, .int .i64 f.sq, .int .i64 f.ac, .slice A n c] 24)).alloc (.cells #[.int .i64 f2.k, .int .i64 f2.fr, .int .i64 f2.tt, .int .i64 f2.ep, .int .i64 f2.sq, .int .i64 f2.ac, .slice A2 n2 c2] 24)).alloc (.cells #[.int .i64 at_, .int .u8 (t0 : Int), .int .u8 (t1 : Int), .int .u8 (t2 : Int), .int .u8 (t3 : Int)] 41)) ((w.heap.size + 1 + 1)) (41) ([.int .i64 at_, .int .u8 (t0 : Int), .int .u8 (t1 : Int), .int .u8 (t2 : Int), .int .u8 (t3 : Int)]) from Whole.new2 (by first | rfl | simp)).bl hb1)
  have Bel_2 := Lib.hid (bel_bl (bel_al (bel_al (bel_al (Below.refl _ w) (.cells #[.int .i64 f.k, .int .i64 f.fr, .int .i64 f.tt, .int .i64 f.ep, .int .i64 f.sq, .int .i64 f.ac, .slice A n c] 24)) (.cells #[.int .i64 f2.k, .int .i64 f2.fr, .int .i64 f2.tt, .int .i64 f2.ep, .int .i64 f2.sq, .int .i64 f2.ac, .slice A2 n2 c2] 24)) (.cells #[.int .i64 at_, .int .u8 (t0 : Int), .int .u8 (t1 : Int), .int .u8 (t2 : Int), .int .u8 (t3 : Int)] 41)) hb1)
  clear RL RM RL2 RM2
  clear hb1
  have LO_F_3 : RowKit.Hid (w.heap.size ≤ w.heap.size) := Lib.hid (by omega)
  have LO_G_4 : RowKit.Hid (w.heap.size ≤ (w.heap.size + 1)) := Lib.hid (by omega)
  have NE_F_G : RowKit.Hid (w.heap.size ≠ (w.heap.size + 1)) := Lib.hid (by omega)
  have LO_X_5 : RowKit.Hid (w.heap.size ≤ (w.heap.size + 1 + 1)) := Lib.hid (by omega)
  have NE_F_X : RowKit.Hid (w.heap.size ≠ (w.heap.size + 1 + 1)) := Lib.hid (by omega)
  have NE_G_X : RowKit.Hid ((w.heap.size + 1) ≠ (w.heap.size + 1 + 1)) := Lib.hid (by omega)
  go_upto_region 2 with fail
  refine wp_region_lit ?_
  refine wpList_load_row rfl 24 (.tmp 3) rfl w.heap.size rfl 24 #[.int .i64 f.k, .int .i64 f.fr, .int .i64 f.tt, .int .i64 f.ep, .int .i64 f.sq, .int .i64 f.ac, .slice A n c] (0, 0) _ (F_2.out) Try.underlying24 rfl (by kernel_rfl) ?_
  simp only [Act.put, List.setIfInBounds_toArray, List.set_cons_zero, List.set_cons_succ]
  go_wp2_with fail
  refine (HF.out _ RL_2.out).mono ?_
  rintro e w6 ⟨rfl, hb6⟩
  have RL_7 := Lib.hid (RL_2.out.bl hb6)
  have RM_7 := Lib.hid (RM_2.out.bl hb6)
  have RL2_7 := Lib.hid (RL2_2.out.bl hb6)
  have RM2_7 := Lib.hid (RM2_2.out.bl hb6)
  have F_7 := Lib.hid (F_2.out.bl hb6)
  have G_7 := Lib.hid (G_2.out.bl hb6)
  have X_7 := Lib.hid (X_2.out.bl hb6)
  have Bel_7 := Lib.hid (bel_bl Bel_2.out hb6)
  clear RL_2 RM_2 RL2_2 RM2_2 F_2 G_2 X_2 Bel_2
  clear hb6
  rename_i hK
  refine hK _ _ ?_
  clear hK
  refine wpList_store_row rfl 24 (.tmp 3) (.tmp 22) rfl w.heap.size #[.int .i64 f.k, .int .i64 f.fr, .int .i64 f.tt, .int .i64 f.ep, .int .i64 f.sq, .int .i64 f.ac, .slice A M.length c] rfl rfl 24 #[.int .i64 f.k, .int .i64 f.fr, .int .i64 f.tt, .int .i64 f.ep, .int .i64 f.sq, .int .i64 f.ac, .slice A n c] (F_7.out) (by kernel_rfl) rfl (by simp [Value.oneCell']) ?_
  obtain ⟨v8, gv8⟩ : ∃ x, w6.setRow w.heap.size #[.int .i64 f.k, .int .i64 f.fr, .int .i64 f.tt, .int .i64 f.ep, .int .i64 f.sq, .int .i64 f.ac, .slice A M.length c] = x := ⟨_, rfl⟩
  have RL_8 := Lib.hid (show RdS v8 v8.heap.size _ _ _ _ _ from gv8 ▸ RdS.row_far RL_7.out (g := w.heap.size) (fun a ha hn e => by have h1 := LL.out a ha hn; have h2 := LO_F_3.out; have h3 := Option.some.inj e; omega) #[.int .i64 f.k, .int .i64 f.fr, .int .i64 f.tt, .int .i64 f.ep, .int .i64 f.sq, .int .i64 f.ac, .slice A M.length c])
  have RM_8 := Lib.hid (show RdS v8 v8.heap.size _ _ _ _ _ from gv8 ▸ RdS.row_far RM_7.out (g := w.heap.size) (fun a ha hn e => by have h1 := LM.out a ha hn; have h2 := LO_F_3.out; have h3 := Option.some.inj e; omega) #[.int .i64 f.k, .int .i64 f.fr, .int .i64 f.tt, .int .i64 f.ep, .int .i64 f.sq, .int .i64 f.ac, .slice A M.length c])
  have RL2_8 := Lib.hid (show RdS v8 v8.heap.size _ _ _ _ _ from gv8 ▸ RdS.row_far RL2_7.out (g := w.heap.size) (fun a ha hn e => by have h1 := LL2.out a ha hn; have h2 := LO_F_3.out; have h3 := Option.some.inj e; omega) #[.int .i64 f.k, .int .i64 f.fr, .int .i64 f.tt, .int .i64 f.ep, .int .i64 f.sq, .int .i64 f.ac, .slice A M.length c])
  have RM2_8 := Lib.hid (show RdS v8 v8.heap.size _ _ _ _ _ from gv8 ▸ RdS.row_far RM2_7.out (g := w.heap.size) (fun a ha hn e => by have h1 := LM2.out a ha hn; have h2 := LO_F_3.out; have h3 := Option.some.inj e; omega) #[.int .i64 f.k, .int .i64 f.fr, .int .i64 f.tt, .int .i64 f.ep, .int .i64 f.sq, .int .i64 f.ac, .slice A M.length c])
  have F_8 : RowKit.Hid (Whole v8 w.heap.size 24 [.int .i64 f.k, .int .i64 f.fr, .int .i64 f.tt, .int .i64 f.ep, .int .i64 f.sq, .int .i64 f.ac, .slice A M.length c]) := Lib.hid (gv8 ▸ Whole.row F_7.out [.int .i64 f.k, .int .i64 f.fr, .int .i64 f.tt, .int .i64 f.ep, .int .i64 f.sq, .int .i64 f.ac, .slice A M.length c])
  have G_8 := Lib.hid (show Whole v8 (w.heap.size + 1) _ _ from gv8 ▸ Whole.row_far G_7.out ((Ne.symm NE_F_G.out)) _)
  have X_8 := Lib.hid (show Whole v8 (w.heap.size + 1 + 1) _ _ from gv8 ▸ Whole.row_far X_7.out ((Ne.symm NE_F_X.out)) _)
  have Bel_8 : RowKit.Hid (Below w.heap.size w v8) := Lib.hid (gv8 ▸ below_row Bel_7.out LO_F_3.out _)
  rw [gv8]
  clear gv8
  clear RL_7 RM_7 RL2_7 RM2_7 F_7 G_7 X_7 Bel_7
  clear RL_8
  clear HF
  go_upto_region 3 with fail
  refine wp_region_lit ?_
  refine wpList_load_row rfl 24 (.tmp 4) rfl (w.heap.size + 1) rfl 24 #[.int .i64 f2.k, .int .i64 f2.fr, .int .i64 f2.tt, .int .i64 f2.ep, .int .i64 f2.sq, .int .i64 f2.ac, .slice A2 n2 c2] (0, 0) _ (G_8.out) Try.underlying24 rfl (by kernel_rfl) ?_
  simp only [Act.put, List.setIfInBounds_toArray, List.set_cons_zero, List.set_cons_succ]
  go_wp2_with fail
  refine (HF2.out _ RL2_8.out).mono ?_
  rintro e w9 ⟨rfl, hb9⟩
  have RM_10 := Lib.hid (RM_8.out.bl hb9)
  have RL2_10 := Lib.hid (RL2_8.out.bl hb9)
  have RM2_10 := Lib.hid (RM2_8.out.bl hb9)
  have F_10 := Lib.hid (F_8.out.bl hb9)
  have G_10 := Lib.hid (G_8.out.bl hb9)
  have X_10 := Lib.hid (X_8.out.bl hb9)
  have Bel_10 := Lib.hid (bel_bl Bel_8.out hb9)
  clear RM_8 RL2_8 RM2_8 F_8 G_8 X_8 Bel_8
  clear hb9
  rename_i hK
  refine hK _ _ ?_
  clear hK
  refine wpList_store_row rfl 24 (.tmp 4) (.tmp 24) rfl (w.heap.size + 1) #[.int .i64 f2.k, .int .i64 f2.fr, .int .i64 f2.tt, .int .i64 f2.ep, .int .i64 f2.sq, .int .i64 f2.ac, .slice A2 M2.length c2] rfl rfl 24 #[.int .i64 f2.k, .int .i64 f2.fr, .int .i64 f2.tt, .int .i64 f2.ep, .int .i64 f2.sq, .int .i64 f2.ac, .slice A2 n2 c2] (G_10.out) (by kernel_rfl) rfl (by simp [Value.oneCell']) ?_
  obtain ⟨v11, gv11⟩ : ∃ x, w9.setRow (w.heap.size + 1) #[.int .i64 f2.k, .int .i64 f2.fr, .int .i64 f2.tt, .int .i64 f2.ep, .int .i64 f2.sq, .int .i64 f2.ac, .slice A2 M2.length c2] = x := ⟨_, rfl⟩
  have RM_11 := Lib.hid (show RdS v11 v11.heap.size _ _ _ _ _ from gv11 ▸ RdS.row_far RM_10.out (g := (w.heap.size + 1)) (fun a ha hn e => by have h1 := LM.out a ha hn; have h2 := LO_G_4.out; have h3 := Option.some.inj e; omega) #[.int .i64 f2.k, .int .i64 f2.fr, .int .i64 f2.tt, .int .i64 f2.ep, .int .i64 f2.sq, .int .i64 f2.ac, .slice A2 M2.length c2])
  have RL2_11 := Lib.hid (show RdS v11 v11.heap.size _ _ _ _ _ from gv11 ▸ RdS.row_far RL2_10.out (g := (w.heap.size + 1)) (fun a ha hn e => by have h1 := LL2.out a ha hn; have h2 := LO_G_4.out; have h3 := Option.some.inj e; omega) #[.int .i64 f2.k, .int .i64 f2.fr, .int .i64 f2.tt, .int .i64 f2.ep, .int .i64 f2.sq, .int .i64 f2.ac, .slice A2 M2.length c2])
  have RM2_11 := Lib.hid (show RdS v11 v11.heap.size _ _ _ _ _ from gv11 ▸ RdS.row_far RM2_10.out (g := (w.heap.size + 1)) (fun a ha hn e => by have h1 := LM2.out a ha hn; have h2 := LO_G_4.out; have h3 := Option.some.inj e; omega) #[.int .i64 f2.k, .int .i64 f2.fr, .int .i64 f2.tt, .int .i64 f2.ep, .int .i64 f2.sq, .int .i64 f2.ac, .slice A2 M2.length c2])
  have F_11 := Lib.hid (show Whole v11 w.heap.size _ _ from gv11 ▸ Whole.row_far F_10.out (NE_F_G.out) _)
  have G_11 : RowKit.Hid (Whole v11 (w.heap.size + 1) 24 [.int .i64 f2.k, .int .i64 f2.fr, .int .i64 f2.tt, .int .i64 f2.ep, .int .i64 f2.sq, .int .i64 f2.ac, .slice A2 M2.length c2]) := Lib.hid (gv11 ▸ Whole.row G_10.out [.int .i64 f2.k, .int .i64 f2.fr, .int .i64 f2.tt, .int .i64 f2.ep, .int .i64 f2.sq, .int .i64 f2.ac, .slice A2 M2.length c2])
  have X_11 := Lib.hid (show Whole v11 (w.heap.size + 1 + 1) _ _ from gv11 ▸ Whole.row_far X_10.out ((Ne.symm NE_G_X.out)) _)
  have Bel_11 : RowKit.Hid (Below w.heap.size w v11) := Lib.hid (gv11 ▸ below_row Bel_10.out LO_G_4.out _)
  rw [gv11]
  clear gv11
  clear RM_10 RL2_10 RM2_10 F_10 G_10 X_10 Bel_10
  clear RL2_11
  clear HF2
  have lw12 : (v11).cell? ⟨w.heap.size, 6, none⟩ = some (.slice A M.length c) := F_11.out.cell (i := 6) rfl
  have lw13 : (v11).cell? ⟨(w.heap.size + 1), 6, none⟩ = some (.slice A2 M2.length c2) := G_11.out.cell (i := 6) rfl
  go_upto_region 6 with fail
  clear hM1 hM12 lw12 lw13
  refine wp_region_lit ?_
  refine wpList_load_row rfl 24 (.tmp 3) rfl w.heap.size rfl 24 #[.int .i64 f.k, .int .i64 f.fr, .int .i64 f.tt, .int .i64 f.ep, .int .i64 f.sq, .int .i64 f.ac, .slice A M.length c] (0, 0) _ (F_11.out) Try.underlying24 rfl (by kernel_rfl) ?_
  simp only [Act.put, List.setIfInBounds_toArray, List.set_cons_zero, List.set_cons_succ]
  have HPc := Lib.hid (HPo.out v11 RM_11.out)
  unfold frCells at HPc
  go_wp2_with fail
  have HGC : RowKit.Hid (w.heap.size + 2 < v11.heap.size) := Lib.hid ((X_11.out).lt)
  refine HPc.out.mono ?_
  rintro e wp3 ⟨Aq, cq, rfl, hq, hb3⟩
  have RM_14 := Lib.hid (RM_11.out.bl hb3)
  have RM2_14 := Lib.hid (RM2_11.out.bl hb3)
  have F_14 := Lib.hid (F_11.out.bl hb3)
  have G_14 := Lib.hid (G_11.out.bl hb3)
  have X_14 := Lib.hid (X_11.out.bl hb3)
  have Bel_14 := Lib.hid (bel_bl Bel_11.out hb3)
  clear RM_11 RM2_11 F_11 G_11 X_11 Bel_11
  clear hb3 HPc HPo
  obtain ⟨A4, c4, e4, hr4⟩ := RdS.of_own hq
  injection e4 with a1 a2 a3
  subst a1 a3
  have RA := Lib.hid hr4
  clear hr4
  obtain ⟨ga, cap, cur, eq1, hga, hgh, hle, hcm, hcs, htk⟩ : ∃ ga cap cur, Value.slice Aq nP cq = .slice (some ⟨ga, 0, none⟩) nP cap ∧ v11.heap.size ≤ ga ∧ wp3.heap[ga]? = some (.cells cur 5 (0, 0)) ∧ nP ≤ cap ∧ cap ≤ maxLen ∧ cur.size = cap * 1 ∧ cur.toList.take (nP * 1) = rowsV f8 (putF f M) := by
    rcases hq.2 with ⟨_, h0⟩ | h1
    · have := HPl.out; omega
    · exact h1
  injection eq1 with a1 a2 a3
  subst a1 a3
  have RG : RowKit.Hid (Whole wp3 ga 5 cur.toList) := Lib.hid (by unfold Whole; rw [Array.toArray_toList]; exact hgh)
  have HCL : RowKit.Hid (cur.toList.length = cq) := Lib.hid (by rw [Array.length_toList]; omega)
  have HTK : RowKit.Hid (cur.toList.take (putF f M).length = rowsV f8 (putF f M)) := Lib.hid (by rw [HgP.out]; rwa [Nat.mul_one] at htk)
  have HGA : RowKit.Hid (w.heap.size + 2 < ga) := Lib.hid (Nat.lt_of_lt_of_le HGC.out hga)
  have hcq : nP ≤ cq := hle
  have hnP : nP ≤ 2000 := by have h1 := HPl.out; have h2 := HM.out; omega
  clear hga hgh hcm hcs htk hq hle HGC
  go_upto_region 7 with fail
  refine wp_region_lit ?_
  refine wpList_load_row rfl 24 (.tmp 4) rfl (w.heap.size + 1) rfl 24 #[.int .i64 f2.k, .int .i64 f2.fr, .int .i64 f2.tt, .int .i64 f2.ep, .int .i64 f2.sq, .int .i64 f2.ac, .slice A2 M2.length c2] (0, 0) _ (G_14.out) Try.underlying24 rfl (by kernel_rfl) ?_
  simp only [Act.put, List.setIfInBounds_toArray, List.set_cons_zero, List.set_cons_succ]
  have HPc := Lib.hid (HPg.out wp3 RM2_14.out)
  unfold frCells at HPc
  go_wp2_with fail
  refine HPc.out.mono ?_
  rintro e wp4 ⟨Ap, np, cp, rfl, hp, hb4⟩
  have RM_15 := Lib.hid (RM_14.out.bl hb4)
  have RM2_15 := Lib.hid (RM2_14.out.bl hb4)
  have F_15 := Lib.hid (F_14.out.bl hb4)
  have G_15 := Lib.hid (G_14.out.bl hb4)
  have X_15 := Lib.hid (X_14.out.bl hb4)
  have RA_15 := Lib.hid (RA.out.bl hb4)
  have RG_15 := Lib.hid (RG.out.bl hb4)
  have Bel_15 := Lib.hid (bel_bl Bel_14.out hb4)
  clear RM_14 RM2_14 F_14 G_14 X_14 RA RG Bel_14
  have RP := Lib.hid hp
  clear hb4 HPc HPg hp
  go_wp2
  go_ret
  exact ⟨rfl, Bel_15.out⟩

set_option maxRecDepth 100000 in
set_option maxHeartbeats 4000000 in
theorem back_lo (f : FrT) (A : Option Addr) (n c : Nat) (L : List Nat) (f2 : FrT) (A2 : Option Addr) (n2 c2 : Nat) (L2 : List Nat) (at_ : Int) (t0 t1 t2 t3 : Nat) (w : World) (h : RdS w w.heap.size 1 A n c (rowsV f8 L)) (hb : ∀ b ∈ L, b < 256) (hn : n ≤ maxLen) (h2 : RdS w w.heap.size 1 A2 n2 c2 (rowsV f8 L2)) (hb2 : ∀ b ∈ L2, b < 256) (hn2 : n2 ≤ maxLen) (ht0 : t0 < 256) (ht1 : t1 < 256) (ht2 : t2 < 256) (ht3 : t3 < 256) (hM : ¬ 1000 < (L.take 16400).length) (hM2 : ¬ 1000 < (L2.take 16400).length) (hz : mayF f (L.take 16400).length = 0) (hz2 : mayF f2 (L2.take 16400).length = 0) (hat : at_ < 0) :
    Calls Try.prog 5 #[.agg #[.int .i64 f.k, .int .i64 f.fr, .int .i64 f.tt, .int .i64 f.ep, .int .i64 f.sq, .int .i64 f.ac, .slice A n c], .agg #[.int .i64 f2.k, .int .i64 f2.fr, .int .i64 f2.tt, .int .i64 f2.ep, .int .i64 f2.sq, .int .i64 f2.ac, .slice A2 n2 c2], .agg #[.int .i64 at_, .int .u8 (t0 : Int), .int .u8 (t1 : Int), .int .u8 (t2 : Int), .int .u8 (t3 : Int)]] w fun e w' => e = .returned (.bool true) ∧ Below w.heap.size w w' := by
  have hl := h.rlen f8_len (by decide)
  obtain ⟨M, gM⟩ : ∃ x, L.take 16400 = x := ⟨_, rfl⟩
  have hF := few15 f A n c L
  have hRM := h.fewer8 16400
  rw [gM] at hF hRM
  have HbM : RowKit.Hid (∀ b ∈ M, b < 256) := Lib.hid (gM ▸ fun b h => hb b (List.mem_of_mem_take h))
  have hM16 : M.length ≤ 16400 := by rw [← gM, List.length_take]; omega
  have HF : RowKit.Hid _ := Lib.hid (fun w' (h' : RdS w' w'.heap.size 1 A n c (rowsV f8 L)) => hF w' h' hn)
  have RM := Lib.hid hRM
  have LM : RowKit.Hid (∀ a, A = some a → 0 < M.length → a.block < w.heap.size) := Lib.hid hRM.low
  have RL := Lib.hid h
  have LL : RowKit.Hid (∀ a, A = some a → 0 < n → a.block < w.heap.size) := Lib.hid h.low
  clear hF hRM h hb hn hl
  have hl2 := h2.rlen f8_len (by decide)
  obtain ⟨M2, gM2⟩ : ∃ x, L2.take 16400 = x := ⟨_, rfl⟩
  have hF2 := few15 f2 A2 n2 c2 L2
  have hRM2 := h2.fewer8 16400
  rw [gM2] at hF2 hRM2
  have HbM2 : RowKit.Hid (∀ b ∈ M2, b < 256) := Lib.hid (gM2 ▸ fun b h => hb2 b (List.mem_of_mem_take h))
  have hM162 : M2.length ≤ 16400 := by rw [← gM2, List.length_take]; omega
  have HF2 : RowKit.Hid _ := Lib.hid (fun w' (h' : RdS w' w'.heap.size 1 A2 n2 c2 (rowsV f8 L2)) => hF2 w' h' hn2)
  have RM2 := Lib.hid hRM2
  have LM2 : RowKit.Hid (∀ a, A2 = some a → 0 < M2.length → a.block < w.heap.size) := Lib.hid hRM2.low
  have RL2 := Lib.hid h2
  have LL2 : RowKit.Hid (∀ a, A2 = some a → 0 < n2 → a.block < w.heap.size) := Lib.hid h2.low
  clear hF2 hRM2 h2 hb2 hn2 hl2
  try rw [gM] at hM
  try rw [gM2] at hM2
  try rw [gM] at hz
  try rw [gM2] at hz2
  try rw [gM] at hat
  have hM1 : decide ((1000 : Int) < (M.length : Int)) = false := by first | exact decide_eq_true (by omega) | exact decide_eq_false (by omega)
  have hM12 : decide ((1000 : Int) < (M2.length : Int)) = false := by first | exact decide_eq_true (by omega) | exact decide_eq_false (by omega)
  obtain ⟨nP, gnP⟩ : ∃ x, (putF f M).length = x := ⟨_, rfl⟩
  have HPo : RowKit.Hid (∀ W, RdS W W.heap.size 1 A M.length c (rowsV f8 M) → Calls Try.prog 11 #[.agg (frCells f A M.length c).toArray] W fun e w' => ∃ A' c', e = .returned (.tuple #[.slice A' nP c', .int .i64 0]) ∧ w'.ownsRow W.heap.size 5 1 (.slice A' nP c') nP (rowsV f8 (putF f M)) ∧ Below W.heap.size W w') := Lib.hid (fun W hr => by rw [← gnP]; exact put_own f A M.length c M W hz hr HbM.out)
  have HTP := Lib.hid (fun A1 c1 W (h : RdS W W.heap.size 1 A1 nP c1 (rowsV f8 (putF f M))) => take_t A1 nP c1 (putF f M) W f M 0 (take_of_put hz) h (putF_lt hz HbM.out) (by rw [← gnP, putF_len]; omega))
  have HPl : RowKit.Hid (nP = 19 + M.length) := Lib.hid (by rw [← gnP, putF_len])
  have HgP := Lib.hid gnP
  have Hz := Lib.hid hz
  have HM := Lib.hid hM
  have HPg := Lib.hid (fun W hr => puts_to f2 A2 c2 M2 W hr HbM2.out)
  have hap := apart_bool (f := f) (g := f2) (M := M) (N := M2) hz hz2 HbM.out HbM2.out
  have hpu : putR f2 M2 = putF f2 M2 := by unfold putR; rw [if_pos hz2]
  rw [hz2, hpu] at HPg
  obtain ⟨T1, gT1⟩ : ∃ x, txt (putF f M) = x := ⟨_, rfl⟩
  obtain ⟨T2, gT2⟩ : ∃ x, txt (putF f2 M2) = x := ⟨_, rfl⟩
  rw [gT1, gT2] at hap
  have HSm := Lib.hid (fun W h1 h2 => same_any f f2 A A2 M.length c M2.length c2 M M2 W h1 h2)
  have HSs := Lib.hid (fun A1 c1 W h1 h2 => same_any f f A1 A M.length c1 M.length c M M W h1 h2)
  rw [sameF_self] at HSs
  obtain ⟨sm, gsm⟩ : ∃ x, sameF f f2 M M2 = x := ⟨_, rfl⟩
  rw [gsm] at HSm hap
  obtain ⟨b1, gb1⟩ : ∃ x, (T1.toList == T2.toList) = x := ⟨_, rfl⟩
  rw [gb1] at hap
  have hap2 : b1 = sm := eq_of_beq hap
  rw [hap2] at gb1
  have HT1 := Lib.hid gT1
  have HT2 := Lib.hid gT2
  have Hb1 := Lib.hid gb1
  unfold frCells at HSm HSs
  clear gT1 gT2 gsm gb1 hap hap2 hpu hz2
  clear hz gnP
  clear gM gM2
  unfold frCells at HF HF2
  go_enter Try.func5, Try.ntmps5
  go_wp2_with fail
  refine (shown15 _).mono ?_
  rintro e w1 ⟨rfl, hb1⟩
  have RL_2 := Lib.hid ((((RL.out.al (.cells #[.int .i64 f.k, .int .i64 f.fr, .int .i64 f.tt, .int .i64 f.ep, .int .i64 f.sq, .int .i64 f.ac, .slice A n c] 24)).al (.cells #[.int .i64 f2.k, .int .i64 f2.fr, .int .i64 f2.tt, .int .i64 f2.ep, .int .i64 f2.sq, .int .i64 f2.ac, .slice A2 n2 c2] 24)).al (.cells #[.int .i64 at_, .int .u8 (t0 : Int), .int .u8 (t1 : Int), .int .u8 (t2 : Int), .int .u8 (t3 : Int)] 41)).bl hb1)
  have RM_2 := Lib.hid ((((RM.out.al (.cells #[.int .i64 f.k, .int .i64 f.fr, .int .i64 f.tt, .int .i64 f.ep, .int .i64 f.sq, .int .i64 f.ac, .slice A n c] 24)).al (.cells #[.int .i64 f2.k, .int .i64 f2.fr, .int .i64 f2.tt, .int .i64 f2.ep, .int .i64 f2.sq, .int .i64 f2.ac, .slice A2 n2 c2] 24)).al (.cells #[.int .i64 at_, .int .u8 (t0 : Int), .int .u8 (t1 : Int), .int .u8 (t2 : Int), .int .u8 (t3 : Int)] 41)).bl hb1)
  have RL2_2 := Lib.hid ((((RL2.out.al (.cells #[.int .i64 f.k, .int .i64 f.fr, .int .i64 f.tt, .int .i64 f.ep, .int .i64 f.sq, .int .i64 f.ac, .slice A n c] 24)).al (.cells #[.int .i64 f2.k, .int .i64 f2.fr, .int .i64 f2.tt, .int .i64 f2.ep, .int .i64 f2.sq, .int .i64 f2.ac, .slice A2 n2 c2] 24)).al (.cells #[.int .i64 at_, .int .u8 (t0 : Int), .int .u8 (t1 : Int), .int .u8 (t2 : Int), .int .u8 (t3 : Int)] 41)).bl hb1)
  have RM2_2 := Lib.hid ((((RM2.out.al (.cells #[.int .i64 f.k, .int .i64 f.fr, .int .i64 f.tt, .int .i64 f.ep, .int .i64 f.sq, .int .i64 f.ac, .slice A n c] 24)).al (.cells #[.int .i64 f2.k, .int .i64 f2.fr, .int .i64 f2.tt, .int .i64 f2.ep, .int .i64 f2.sq, .int .i64 f2.ac, .slice A2 n2 c2] 24)).al (.cells #[.int .i64 at_, .int .u8 (t0 : Int), .int .u8 (t1 : Int), .int .u8 (t2 : Int), .int .u8 (t3 : Int)] 41)).bl hb1)
  have F_2 := Lib.hid ((((show Whole (w.alloc (.cells #[.int .i64 f.k, .int .i64 f.fr, .int .i64 f.tt, .int .i64 f.ep, .int .i64 f.sq, .int .i64 f.ac, .slice A n c] 24)) (w.heap.size) (24) ([.int .i64 f.k, .int .i64 f.fr, .int .i64 f.tt, .int .i64 f.ep, .int .i64 f.sq, .int .i64 f.ac, .slice A n c]) from Whole.new2 (by first | rfl | simp)).al (.cells #[.int .i64 f2.k, .int .i64 f2.fr, .int .i64 f2.tt, .int .i64 f2.ep, .int .i64 f2.sq, .int .i64 f2.ac, .slice A2 n2 c2] 24)).al (.cells #[.int .i64 at_, .int .u8 (t0 : Int), .int .u8 (t1 : Int), .int .u8 (t2 : Int), .int .u8 (t3 : Int)] 41)).bl hb1)
  have G_2 := Lib.hid (((show Whole ((w.alloc (.cells #[.int .i64 f.k, .int .i64 f.fr, .int .i64 f.tt, .int .i64 f.ep, .int .i64 f.sq, .int .i64 f.ac, .slice A n c] 24)).alloc (.cells #[.int .i64 f2.k, .int .i64 f2.fr, .int .i64 f2.tt, .int .i64 f2.ep, .int .i64 f2.sq, .int .i64 f2.ac, .slice A2 n2 c2] 24)) ((w.heap.size + 1)) (24) ([.int .i64 f2.k, .int .i64 f2.fr, .int .i64 f2.tt, .int .i64 f2.ep, .int .i64 f2.sq, .int .i64 f2.ac, .slice A2 n2 c2]) from Whole.new2 (by first | rfl | simp)).al (.cells #[.int .i64 at_, .int .u8 (t0 : Int), .int .u8 (t1 : Int), .int .u8 (t2 : Int), .int .u8 (t3 : Int)] 41)).bl hb1)
  have X_2 := Lib.hid ((show Whole (((w.alloc (.cells #[.int .i64 f.k, .int .i64 f.fr, .int .i64 f.tt, .int .i64 f.ep, .int .i64 f.sq, .int .i64 f.ac, .slice A n c] 24)).alloc (.cells #[.int .i64 f2.k, .int .i64 f2.fr, .int .i64 f2.tt, .int .i64 f2.ep, .int .i64 f2.sq, .int .i64 f2.ac, .slice A2 n2 c2] 24)).alloc (.cells #[.int .i64 at_, .int .u8 (t0 : Int), .int .u8 (t1 : Int), .int .u8 (t2 : Int), .int .u8 (t3 : Int)] 41)) ((w.heap.size + 1 + 1)) (41) ([.int .i64 at_, .int .u8 (t0 : Int), .int .u8 (t1 : Int), .int .u8 (t2 : Int), .int .u8 (t3 : Int)]) from Whole.new2 (by first | rfl | simp)).bl hb1)
  have Bel_2 := Lib.hid (bel_bl (bel_al (bel_al (bel_al (Below.refl _ w) (.cells #[.int .i64 f.k, .int .i64 f.fr, .int .i64 f.tt, .int .i64 f.ep, .int .i64 f.sq, .int .i64 f.ac, .slice A n c] 24)) (.cells #[.int .i64 f2.k, .int .i64 f2.fr, .int .i64 f2.tt, .int .i64 f2.ep, .int .i64 f2.sq, .int .i64 f2.ac, .slice A2 n2 c2] 24)) (.cells #[.int .i64 at_, .int .u8 (t0 : Int), .int .u8 (t1 : Int), .int .u8 (t2 : Int), .int .u8 (t3 : Int)] 41)) hb1)
  clear RL RM RL2 RM2
  clear hb1
  have LO_F_3 : RowKit.Hid (w.heap.size ≤ w.heap.size) := Lib.hid (by omega)
  have LO_G_4 : RowKit.Hid (w.heap.size ≤ (w.heap.size + 1)) := Lib.hid (by omega)
  have NE_F_G : RowKit.Hid (w.heap.size ≠ (w.heap.size + 1)) := Lib.hid (by omega)
  have LO_X_5 : RowKit.Hid (w.heap.size ≤ (w.heap.size + 1 + 1)) := Lib.hid (by omega)
  have NE_F_X : RowKit.Hid (w.heap.size ≠ (w.heap.size + 1 + 1)) := Lib.hid (by omega)
  have NE_G_X : RowKit.Hid ((w.heap.size + 1) ≠ (w.heap.size + 1 + 1)) := Lib.hid (by omega)
  go_upto_region 2 with fail
  refine wp_region_lit ?_
  refine wpList_load_row rfl 24 (.tmp 3) rfl w.heap.size rfl 24 #[.int .i64 f.k, .int .i64 f.fr, .int .i64 f.tt, .int .i64 f.ep, .int .i64 f.sq, .int .i64 f.ac, .slice A n c] (0, 0) _ (F_2.out) Try.underlying24 rfl (by kernel_rfl) ?_
  simp only [Act.put, List.setIfInBounds_toArray, List.set_cons_zero, List.set_cons_succ]
  go_wp2_with fail
  refine (HF.out _ RL_2.out).mono ?_
  rintro e w6 ⟨rfl, hb6⟩
  have RL_7 := Lib.hid (RL_2.out.bl hb6)
  have RM_7 := Lib.hid (RM_2.out.bl hb6)
  have RL2_7 := Lib.hid (RL2_2.out.bl hb6)
  have RM2_7 := Lib.hid (RM2_2.out.bl hb6)
  have F_7 := Lib.hid (F_2.out.bl hb6)
  have G_7 := Lib.hid (G_2.out.bl hb6)
  have X_7 := Lib.hid (X_2.out.bl hb6)
  have Bel_7 := Lib.hid (bel_bl Bel_2.out hb6)
  clear RL_2 RM_2 RL2_2 RM2_2 F_2 G_2 X_2 Bel_2
  clear hb6
  rename_i hK
  refine hK _ _ ?_
  clear hK
  refine wpList_store_row rfl 24 (.tmp 3) (.tmp 22) rfl w.heap.size #[.int .i64 f.k, .int .i64 f.fr, .int .i64 f.tt, .int .i64 f.ep, .int .i64 f.sq, .int .i64 f.ac, .slice A M.length c] rfl rfl 24 #[.int .i64 f.k, .int .i64 f.fr, .int .i64 f.tt, .int .i64 f.ep, .int .i64 f.sq, .int .i64 f.ac, .slice A n c] (F_7.out) (by kernel_rfl) rfl (by simp [Value.oneCell']) ?_
  obtain ⟨v8, gv8⟩ : ∃ x, w6.setRow w.heap.size #[.int .i64 f.k, .int .i64 f.fr, .int .i64 f.tt, .int .i64 f.ep, .int .i64 f.sq, .int .i64 f.ac, .slice A M.length c] = x := ⟨_, rfl⟩
  have RL_8 := Lib.hid (show RdS v8 v8.heap.size _ _ _ _ _ from gv8 ▸ RdS.row_far RL_7.out (g := w.heap.size) (fun a ha hn e => by have h1 := LL.out a ha hn; have h2 := LO_F_3.out; have h3 := Option.some.inj e; omega) #[.int .i64 f.k, .int .i64 f.fr, .int .i64 f.tt, .int .i64 f.ep, .int .i64 f.sq, .int .i64 f.ac, .slice A M.length c])
  have RM_8 := Lib.hid (show RdS v8 v8.heap.size _ _ _ _ _ from gv8 ▸ RdS.row_far RM_7.out (g := w.heap.size) (fun a ha hn e => by have h1 := LM.out a ha hn; have h2 := LO_F_3.out; have h3 := Option.some.inj e; omega) #[.int .i64 f.k, .int .i64 f.fr, .int .i64 f.tt, .int .i64 f.ep, .int .i64 f.sq, .int .i64 f.ac, .slice A M.length c])
  have RL2_8 := Lib.hid (show RdS v8 v8.heap.size _ _ _ _ _ from gv8 ▸ RdS.row_far RL2_7.out (g := w.heap.size) (fun a ha hn e => by have h1 := LL2.out a ha hn; have h2 := LO_F_3.out; have h3 := Option.some.inj e; omega) #[.int .i64 f.k, .int .i64 f.fr, .int .i64 f.tt, .int .i64 f.ep, .int .i64 f.sq, .int .i64 f.ac, .slice A M.length c])
  have RM2_8 := Lib.hid (show RdS v8 v8.heap.size _ _ _ _ _ from gv8 ▸ RdS.row_far RM2_7.out (g := w.heap.size) (fun a ha hn e => by have h1 := LM2.out a ha hn; have h2 := LO_F_3.out; have h3 := Option.some.inj e; omega) #[.int .i64 f.k, .int .i64 f.fr, .int .i64 f.tt, .int .i64 f.ep, .int .i64 f.sq, .int .i64 f.ac, .slice A M.length c])
  have F_8 : RowKit.Hid (Whole v8 w.heap.size 24 [.int .i64 f.k, .int .i64 f.fr, .int .i64 f.tt, .int .i64 f.ep, .int .i64 f.sq, .int .i64 f.ac, .slice A M.length c]) := Lib.hid (gv8 ▸ Whole.row F_7.out [.int .i64 f.k, .int .i64 f.fr, .int .i64 f.tt, .int .i64 f.ep, .int .i64 f.sq, .int .i64 f.ac, .slice A M.length c])
  have G_8 := Lib.hid (show Whole v8 (w.heap.size + 1) _ _ from gv8 ▸ Whole.row_far G_7.out ((Ne.symm NE_F_G.out)) _)
  have X_8 := Lib.hid (show Whole v8 (w.heap.size + 1 + 1) _ _ from gv8 ▸ Whole.row_far X_7.out ((Ne.symm NE_F_X.out)) _)
  have Bel_8 : RowKit.Hid (Below w.heap.size w v8) := Lib.hid (gv8 ▸ below_row Bel_7.out LO_F_3.out _)
  rw [gv8]
  clear gv8
  clear RL_7 RM_7 RL2_7 RM2_7 F_7 G_7 X_7 Bel_7
  clear RL_8
  clear HF
  go_upto_region 3 with fail
  refine wp_region_lit ?_
  refine wpList_load_row rfl 24 (.tmp 4) rfl (w.heap.size + 1) rfl 24 #[.int .i64 f2.k, .int .i64 f2.fr, .int .i64 f2.tt, .int .i64 f2.ep, .int .i64 f2.sq, .int .i64 f2.ac, .slice A2 n2 c2] (0, 0) _ (G_8.out) Try.underlying24 rfl (by kernel_rfl) ?_
  simp only [Act.put, List.setIfInBounds_toArray, List.set_cons_zero, List.set_cons_succ]
  go_wp2_with fail
  refine (HF2.out _ RL2_8.out).mono ?_
  rintro e w9 ⟨rfl, hb9⟩
  have RM_10 := Lib.hid (RM_8.out.bl hb9)
  have RL2_10 := Lib.hid (RL2_8.out.bl hb9)
  have RM2_10 := Lib.hid (RM2_8.out.bl hb9)
  have F_10 := Lib.hid (F_8.out.bl hb9)
  have G_10 := Lib.hid (G_8.out.bl hb9)
  have X_10 := Lib.hid (X_8.out.bl hb9)
  have Bel_10 := Lib.hid (bel_bl Bel_8.out hb9)
  clear RM_8 RL2_8 RM2_8 F_8 G_8 X_8 Bel_8
  clear hb9
  rename_i hK
  refine hK _ _ ?_
  clear hK
  refine wpList_store_row rfl 24 (.tmp 4) (.tmp 24) rfl (w.heap.size + 1) #[.int .i64 f2.k, .int .i64 f2.fr, .int .i64 f2.tt, .int .i64 f2.ep, .int .i64 f2.sq, .int .i64 f2.ac, .slice A2 M2.length c2] rfl rfl 24 #[.int .i64 f2.k, .int .i64 f2.fr, .int .i64 f2.tt, .int .i64 f2.ep, .int .i64 f2.sq, .int .i64 f2.ac, .slice A2 n2 c2] (G_10.out) (by kernel_rfl) rfl (by simp [Value.oneCell']) ?_
  obtain ⟨v11, gv11⟩ : ∃ x, w9.setRow (w.heap.size + 1) #[.int .i64 f2.k, .int .i64 f2.fr, .int .i64 f2.tt, .int .i64 f2.ep, .int .i64 f2.sq, .int .i64 f2.ac, .slice A2 M2.length c2] = x := ⟨_, rfl⟩
  have RM_11 := Lib.hid (show RdS v11 v11.heap.size _ _ _ _ _ from gv11 ▸ RdS.row_far RM_10.out (g := (w.heap.size + 1)) (fun a ha hn e => by have h1 := LM.out a ha hn; have h2 := LO_G_4.out; have h3 := Option.some.inj e; omega) #[.int .i64 f2.k, .int .i64 f2.fr, .int .i64 f2.tt, .int .i64 f2.ep, .int .i64 f2.sq, .int .i64 f2.ac, .slice A2 M2.length c2])
  have RL2_11 := Lib.hid (show RdS v11 v11.heap.size _ _ _ _ _ from gv11 ▸ RdS.row_far RL2_10.out (g := (w.heap.size + 1)) (fun a ha hn e => by have h1 := LL2.out a ha hn; have h2 := LO_G_4.out; have h3 := Option.some.inj e; omega) #[.int .i64 f2.k, .int .i64 f2.fr, .int .i64 f2.tt, .int .i64 f2.ep, .int .i64 f2.sq, .int .i64 f2.ac, .slice A2 M2.length c2])
  have RM2_11 := Lib.hid (show RdS v11 v11.heap.size _ _ _ _ _ from gv11 ▸ RdS.row_far RM2_10.out (g := (w.heap.size + 1)) (fun a ha hn e => by have h1 := LM2.out a ha hn; have h2 := LO_G_4.out; have h3 := Option.some.inj e; omega) #[.int .i64 f2.k, .int .i64 f2.fr, .int .i64 f2.tt, .int .i64 f2.ep, .int .i64 f2.sq, .int .i64 f2.ac, .slice A2 M2.length c2])
  have F_11 := Lib.hid (show Whole v11 w.heap.size _ _ from gv11 ▸ Whole.row_far F_10.out (NE_F_G.out) _)
  have G_11 : RowKit.Hid (Whole v11 (w.heap.size + 1) 24 [.int .i64 f2.k, .int .i64 f2.fr, .int .i64 f2.tt, .int .i64 f2.ep, .int .i64 f2.sq, .int .i64 f2.ac, .slice A2 M2.length c2]) := Lib.hid (gv11 ▸ Whole.row G_10.out [.int .i64 f2.k, .int .i64 f2.fr, .int .i64 f2.tt, .int .i64 f2.ep, .int .i64 f2.sq, .int .i64 f2.ac, .slice A2 M2.length c2])
  have X_11 := Lib.hid (show Whole v11 (w.heap.size + 1 + 1) _ _ from gv11 ▸ Whole.row_far X_10.out ((Ne.symm NE_G_X.out)) _)
  have Bel_11 : RowKit.Hid (Below w.heap.size w v11) := Lib.hid (gv11 ▸ below_row Bel_10.out LO_G_4.out _)
  rw [gv11]
  clear gv11
  clear RM_10 RL2_10 RM2_10 F_10 G_10 X_10 Bel_10
  clear RL2_11
  clear HF2
  have lw12 : (v11).cell? ⟨w.heap.size, 6, none⟩ = some (.slice A M.length c) := F_11.out.cell (i := 6) rfl
  have lw13 : (v11).cell? ⟨(w.heap.size + 1), 6, none⟩ = some (.slice A2 M2.length c2) := G_11.out.cell (i := 6) rfl
  go_upto_region 6 with fail
  clear hM1 hM12 lw12 lw13
  refine wp_region_lit ?_
  refine wpList_load_row rfl 24 (.tmp 3) rfl w.heap.size rfl 24 #[.int .i64 f.k, .int .i64 f.fr, .int .i64 f.tt, .int .i64 f.ep, .int .i64 f.sq, .int .i64 f.ac, .slice A M.length c] (0, 0) _ (F_11.out) Try.underlying24 rfl (by kernel_rfl) ?_
  simp only [Act.put, List.setIfInBounds_toArray, List.set_cons_zero, List.set_cons_succ]
  have HPc := Lib.hid (HPo.out v11 RM_11.out)
  unfold frCells at HPc
  go_wp2_with fail
  have HGC : RowKit.Hid (w.heap.size + 2 < v11.heap.size) := Lib.hid ((X_11.out).lt)
  refine HPc.out.mono ?_
  rintro e wp3 ⟨Aq, cq, rfl, hq, hb3⟩
  have RM_14 := Lib.hid (RM_11.out.bl hb3)
  have RM2_14 := Lib.hid (RM2_11.out.bl hb3)
  have F_14 := Lib.hid (F_11.out.bl hb3)
  have G_14 := Lib.hid (G_11.out.bl hb3)
  have X_14 := Lib.hid (X_11.out.bl hb3)
  have Bel_14 := Lib.hid (bel_bl Bel_11.out hb3)
  clear RM_11 RM2_11 F_11 G_11 X_11 Bel_11
  clear hb3 HPc HPo
  obtain ⟨A4, c4, e4, hr4⟩ := RdS.of_own hq
  injection e4 with a1 a2 a3
  subst a1 a3
  have RA := Lib.hid hr4
  clear hr4
  obtain ⟨ga, cap, cur, eq1, hga, hgh, hle, hcm, hcs, htk⟩ : ∃ ga cap cur, Value.slice Aq nP cq = .slice (some ⟨ga, 0, none⟩) nP cap ∧ v11.heap.size ≤ ga ∧ wp3.heap[ga]? = some (.cells cur 5 (0, 0)) ∧ nP ≤ cap ∧ cap ≤ maxLen ∧ cur.size = cap * 1 ∧ cur.toList.take (nP * 1) = rowsV f8 (putF f M) := by
    rcases hq.2 with ⟨_, h0⟩ | h1
    · have := HPl.out; omega
    · exact h1
  injection eq1 with a1 a2 a3
  subst a1 a3
  have RG : RowKit.Hid (Whole wp3 ga 5 cur.toList) := Lib.hid (by unfold Whole; rw [Array.toArray_toList]; exact hgh)
  have HCL : RowKit.Hid (cur.toList.length = cq) := Lib.hid (by rw [Array.length_toList]; omega)
  have HTK : RowKit.Hid (cur.toList.take (putF f M).length = rowsV f8 (putF f M)) := Lib.hid (by rw [HgP.out]; rwa [Nat.mul_one] at htk)
  have HGA : RowKit.Hid (w.heap.size + 2 < ga) := Lib.hid (Nat.lt_of_lt_of_le HGC.out hga)
  have hcq : nP ≤ cq := hle
  have hnP : nP ≤ 2000 := by have h1 := HPl.out; have h2 := HM.out; omega
  clear hga hgh hcm hcs htk hq hle HGC
  go_upto_region 7 with fail
  refine wp_region_lit ?_
  refine wpList_load_row rfl 24 (.tmp 4) rfl (w.heap.size + 1) rfl 24 #[.int .i64 f2.k, .int .i64 f2.fr, .int .i64 f2.tt, .int .i64 f2.ep, .int .i64 f2.sq, .int .i64 f2.ac, .slice A2 M2.length c2] (0, 0) _ (G_14.out) Try.underlying24 rfl (by kernel_rfl) ?_
  simp only [Act.put, List.setIfInBounds_toArray, List.set_cons_zero, List.set_cons_succ]
  have HPc := Lib.hid (HPg.out wp3 RM2_14.out)
  unfold frCells at HPc
  go_wp2_with fail
  refine HPc.out.mono ?_
  rintro e wp4 ⟨Ap, np, cp, rfl, hp, hb4⟩
  have RM_15 := Lib.hid (RM_14.out.bl hb4)
  have RM2_15 := Lib.hid (RM2_14.out.bl hb4)
  have F_15 := Lib.hid (F_14.out.bl hb4)
  have G_15 := Lib.hid (G_14.out.bl hb4)
  have X_15 := Lib.hid (X_14.out.bl hb4)
  have RA_15 := Lib.hid (RA.out.bl hb4)
  have RG_15 := Lib.hid (RG.out.bl hb4)
  have Bel_15 := Lib.hid (bel_bl Bel_14.out hb4)
  clear RM_14 RM2_14 F_14 G_14 X_14 RA RG Bel_14
  have RP := Lib.hid hp
  clear hb4 HPc HPg hp
  go_upto_region 10 with fail
  go_wp2_with fail
  refine (HTP.out _ _ _ RA_15.out).mono ?_
  rintro e wp5 ⟨At, ct, rfl, hrt, -, hb5⟩
  have RM_16 := Lib.hid (RM_15.out.bl hb5)
  have RM2_16 := Lib.hid (RM2_15.out.bl hb5)
  have F_16 := Lib.hid (F_15.out.bl hb5)
  have G_16 := Lib.hid (G_15.out.bl hb5)
  have X_16 := Lib.hid (X_15.out.bl hb5)
  have RA_16 := Lib.hid (RA_15.out.bl hb5)
  have RG_16 := Lib.hid (RG_15.out.bl hb5)
  have RP_16 := Lib.hid (RP.out.bl hb5)
  have Bel_16 := Lib.hid (bel_bl Bel_15.out hb5)
  clear RM_15 RM2_15 F_15 G_15 X_15 RA_15 RG_15 RP Bel_15
  have RT := Lib.hid hrt
  clear hb5 HTP hrt
  unfold frCells
  go_upto_region 11 with fail
  have NE_F_Y_17 : RowKit.Hid (w.heap.size ≠ wp5.heap.size) := Lib.hid (by have := (F_16.out).lt; omega)
  have NE_G_Y_17 : RowKit.Hid ((w.heap.size + 1) ≠ wp5.heap.size) := Lib.hid (by have := (G_16.out).lt; omega)
  have NE_X_Y_17 : RowKit.Hid ((w.heap.size + 1 + 1) ≠ wp5.heap.size) := Lib.hid (by have := (X_16.out).lt; omega)
  have NE_RG_Y_17 : RowKit.Hid (ga ≠ wp5.heap.size) := Lib.hid (by have := (RG_16.out).lt; omega)
  have LO_Y_17 : RowKit.Hid (w.heap.size ≤ wp5.heap.size) := Lib.hid (Bel_16.out).size
  have RM_18 := Lib.hid ((RM_16.out.al (.cells (#[.int .i64 f.k, .int .i64 f.fr, .int .i64 f.tt, .int .i64 f.ep, .int .i64 f.sq, .int .i64 f.ac, .slice At M.length ct]) 24)))
  have RM2_18 := Lib.hid ((RM2_16.out.al (.cells (#[.int .i64 f.k, .int .i64 f.fr, .int .i64 f.tt, .int .i64 f.ep, .int .i64 f.sq, .int .i64 f.ac, .slice At M.length ct]) 24)))
  have F_18 := Lib.hid ((F_16.out.al (.cells (#[.int .i64 f.k, .int .i64 f.fr, .int .i64 f.tt, .int .i64 f.ep, .int .i64 f.sq, .int .i64 f.ac, .slice At M.length ct]) 24)))
  have G_18 := Lib.hid ((G_16.out.al (.cells (#[.int .i64 f.k, .int .i64 f.fr, .int .i64 f.tt, .int .i64 f.ep, .int .i64 f.sq, .int .i64 f.ac, .slice At M.length ct]) 24)))
  have X_18 := Lib.hid ((X_16.out.al (.cells (#[.int .i64 f.k, .int .i64 f.fr, .int .i64 f.tt, .int .i64 f.ep, .int .i64 f.sq, .int .i64 f.ac, .slice At M.length ct]) 24)))
  have RA_18 := Lib.hid ((RA_16.out.al (.cells (#[.int .i64 f.k, .int .i64 f.fr, .int .i64 f.tt, .int .i64 f.ep, .int .i64 f.sq, .int .i64 f.ac, .slice At M.length ct]) 24)))
  have RG_18 := Lib.hid ((RG_16.out.al (.cells (#[.int .i64 f.k, .int .i64 f.fr, .int .i64 f.tt, .int .i64 f.ep, .int .i64 f.sq, .int .i64 f.ac, .slice At M.length ct]) 24)))
  have RP_18 := Lib.hid ((RP_16.out.al (.cells (#[.int .i64 f.k, .int .i64 f.fr, .int .i64 f.tt, .int .i64 f.ep, .int .i64 f.sq, .int .i64 f.ac, .slice At M.length ct]) 24)))
  have RT_18 := Lib.hid ((RT.out.al (.cells (#[.int .i64 f.k, .int .i64 f.fr, .int .i64 f.tt, .int .i64 f.ep, .int .i64 f.sq, .int .i64 f.ac, .slice At M.length ct]) 24)))
  have Y_18 := Lib.hid ((show Whole (wp5.alloc (.cells (#[.int .i64 f.k, .int .i64 f.fr, .int .i64 f.tt, .int .i64 f.ep, .int .i64 f.sq, .int .i64 f.ac, .slice At M.length ct]) 24)) (wp5.heap.size) (24) ([.int .i64 f.k, .int .i64 f.fr, .int .i64 f.tt, .int .i64 f.ep, .int .i64 f.sq, .int .i64 f.ac, .slice At M.length ct]) from Whole.new2 (by first | rfl | simp)))
  have Bel_18 := Lib.hid (bel_al Bel_16.out (.cells (#[.int .i64 f.k, .int .i64 f.fr, .int .i64 f.tt, .int .i64 f.ep, .int .i64 f.sq, .int .i64 f.ac, .slice At M.length ct]) 24))
  obtain ⟨v18, gv18⟩ : ∃ x, (wp5.alloc (.cells (#[.int .i64 f.k, .int .i64 f.fr, .int .i64 f.tt, .int .i64 f.ep, .int .i64 f.sq, .int .i64 f.ac, .slice At M.length ct]) 24)) = x := ⟨_, rfl⟩
  rw [gv18] at RM_18 RM2_18 F_18 G_18 X_18 RA_18 RG_18 RP_18 RT_18 Y_18 Bel_18 ⊢
  clear gv18
  clear RM_16 RM2_16 F_16 G_16 X_16 RA_16 RG_16 RP_16 RT Bel_16
  obtain ⟨g19, gg19⟩ : ∃ x, wp5.heap.size = x := ⟨_, rfl⟩
  rw [gg19] at Y_18 LO_Y_17 NE_F_Y_17 NE_G_Y_17 NE_X_Y_17 NE_RG_Y_17 
  rw [gg19]
  clear gg19
  refine wp_region_lit ?_
  refine wpList_load_row rfl 24 (.tmp 12) rfl g19 rfl 24 #[.int .i64 f.k, .int .i64 f.fr, .int .i64 f.tt, .int .i64 f.ep, .int .i64 f.sq, .int .i64 f.ac, .slice At M.length ct] (0, 0) _ (Y_18.out) Try.underlying24 rfl (by kernel_rfl) ?_
  simp only [Act.put, List.setIfInBounds_toArray, List.set_cons_zero, List.set_cons_succ]
  refine wpList_load_row rfl 24 (.tmp 3) rfl w.heap.size rfl 24 #[.int .i64 f.k, .int .i64 f.fr, .int .i64 f.tt, .int .i64 f.ep, .int .i64 f.sq, .int .i64 f.ac, .slice A M.length c] (0, 0) _ (F_18.out) Try.underlying24 rfl (by kernel_rfl) ?_
  simp only [Act.put, List.setIfInBounds_toArray, List.set_cons_zero, List.set_cons_succ]
  go_wp2_with fail
  refine (HSs.out _ _ _ RT_18.out RM_18.out).mono ?_
  rintro e w20 ⟨rfl, hb20⟩
  have RM_21 := Lib.hid (RM_18.out.bl hb20)
  have RM2_21 := Lib.hid (RM2_18.out.bl hb20)
  have F_21 := Lib.hid (F_18.out.bl hb20)
  have G_21 := Lib.hid (G_18.out.bl hb20)
  have X_21 := Lib.hid (X_18.out.bl hb20)
  have RA_21 := Lib.hid (RA_18.out.bl hb20)
  have RG_21 := Lib.hid (RG_18.out.bl hb20)
  have RP_21 := Lib.hid (RP_18.out.bl hb20)
  have RT_21 := Lib.hid (RT_18.out.bl hb20)
  have Y_21 := Lib.hid (Y_18.out.bl hb20)
  have Bel_21 := Lib.hid (bel_bl Bel_18.out hb20)
  clear RM_18 RM2_18 F_18 G_18 X_18 RA_18 RG_18 RP_18 RT_18 Y_18 Bel_18
  clear hb20
  clear RT_21 Y_21
  clear HSs
  go_upto_region 12 with fail
  refine wp_region_lit ?_
  refine wpList_load_row rfl 24 (.tmp 3) rfl w.heap.size rfl 24 #[.int .i64 f.k, .int .i64 f.fr, .int .i64 f.tt, .int .i64 f.ep, .int .i64 f.sq, .int .i64 f.ac, .slice A M.length c] (0, 0) _ (F_21.out) Try.underlying24 rfl (by kernel_rfl) ?_
  simp only [Act.put, List.setIfInBounds_toArray, List.set_cons_zero, List.set_cons_succ]
  refine wpList_load_row rfl 24 (.tmp 4) rfl (w.heap.size + 1) rfl 24 #[.int .i64 f2.k, .int .i64 f2.fr, .int .i64 f2.tt, .int .i64 f2.ep, .int .i64 f2.sq, .int .i64 f2.ac, .slice A2 M2.length c2] (0, 0) _ (G_21.out) Try.underlying24 rfl (by kernel_rfl) ?_
  simp only [Act.put, List.setIfInBounds_toArray, List.set_cons_zero, List.set_cons_succ]
  go_wp2_with fail
  refine (HSm.out _ RM_21.out RM2_21.out).mono ?_
  rintro e w22 ⟨rfl, hb22⟩
  have RM_23 := Lib.hid (RM_21.out.bl hb22)
  have RM2_23 := Lib.hid (RM2_21.out.bl hb22)
  have F_23 := Lib.hid (F_21.out.bl hb22)
  have G_23 := Lib.hid (G_21.out.bl hb22)
  have X_23 := Lib.hid (X_21.out.bl hb22)
  have RA_23 := Lib.hid (RA_21.out.bl hb22)
  have RG_23 := Lib.hid (RG_21.out.bl hb22)
  have RP_23 := Lib.hid (RP_21.out.bl hb22)
  have Bel_23 := Lib.hid (bel_bl Bel_21.out hb22)
  clear RM_21 RM2_21 F_21 G_21 X_21 RA_21 RG_21 RP_21 Bel_21
  clear hb22
  clear HSm
  clear RM_23 RM2_23 F_23 G_23
  have hca := conv_txt RA_23.out
  have hcb := conv_txt RP_23.out
  rw [HT1.out] at hca
  rw [HT2.out] at hcb
  have hb1 := Hb1.out
  clear RP_23
  go_upto_region 15 with fail
  clear hca hcb hb1 HT1 HT2 Hb1
  clear RA_23
  have lw24 : (w22).cell? ⟨(w.heap.size + 1 + 1), 0, none⟩ = some (.int .i64 at_) := X_23.out.cell (i := 0) rfl
  have hat1 : decide (at_ < 0) = true := decide_eq_true hat
  go_wp2
  go_ret
  exact ⟨rfl, Bel_23.out⟩

set_option maxRecDepth 100000 in
set_option maxHeartbeats 4000000 in
theorem back_hi (f : FrT) (A : Option Addr) (n c : Nat) (L : List Nat) (f2 : FrT) (A2 : Option Addr) (n2 c2 : Nat) (L2 : List Nat) (at_ : Int) (t0 t1 t2 t3 : Nat) (w : World) (h : RdS w w.heap.size 1 A n c (rowsV f8 L)) (hb : ∀ b ∈ L, b < 256) (hn : n ≤ maxLen) (h2 : RdS w w.heap.size 1 A2 n2 c2 (rowsV f8 L2)) (hb2 : ∀ b ∈ L2, b < 256) (hn2 : n2 ≤ maxLen) (ht0 : t0 < 256) (ht1 : t1 < 256) (ht2 : t2 < 256) (ht3 : t3 < 256) (hM : ¬ 1000 < (L.take 16400).length) (hM2 : ¬ 1000 < (L2.take 16400).length) (hz : mayF f (L.take 16400).length = 0) (hz2 : mayF f2 (L2.take 16400).length = 0) (hat : ((19 + (L.take 16400).length : Nat) : Int) ≤ at_) :
    Calls Try.prog 5 #[.agg #[.int .i64 f.k, .int .i64 f.fr, .int .i64 f.tt, .int .i64 f.ep, .int .i64 f.sq, .int .i64 f.ac, .slice A n c], .agg #[.int .i64 f2.k, .int .i64 f2.fr, .int .i64 f2.tt, .int .i64 f2.ep, .int .i64 f2.sq, .int .i64 f2.ac, .slice A2 n2 c2], .agg #[.int .i64 at_, .int .u8 (t0 : Int), .int .u8 (t1 : Int), .int .u8 (t2 : Int), .int .u8 (t3 : Int)]] w fun e w' => e = .returned (.bool true) ∧ Below w.heap.size w w' := by
  have hl := h.rlen f8_len (by decide)
  obtain ⟨M, gM⟩ : ∃ x, L.take 16400 = x := ⟨_, rfl⟩
  have hF := few15 f A n c L
  have hRM := h.fewer8 16400
  rw [gM] at hF hRM
  have HbM : RowKit.Hid (∀ b ∈ M, b < 256) := Lib.hid (gM ▸ fun b h => hb b (List.mem_of_mem_take h))
  have hM16 : M.length ≤ 16400 := by rw [← gM, List.length_take]; omega
  have HF : RowKit.Hid _ := Lib.hid (fun w' (h' : RdS w' w'.heap.size 1 A n c (rowsV f8 L)) => hF w' h' hn)
  have RM := Lib.hid hRM
  have LM : RowKit.Hid (∀ a, A = some a → 0 < M.length → a.block < w.heap.size) := Lib.hid hRM.low
  have RL := Lib.hid h
  have LL : RowKit.Hid (∀ a, A = some a → 0 < n → a.block < w.heap.size) := Lib.hid h.low
  clear hF hRM h hb hn hl
  have hl2 := h2.rlen f8_len (by decide)
  obtain ⟨M2, gM2⟩ : ∃ x, L2.take 16400 = x := ⟨_, rfl⟩
  have hF2 := few15 f2 A2 n2 c2 L2
  have hRM2 := h2.fewer8 16400
  rw [gM2] at hF2 hRM2
  have HbM2 : RowKit.Hid (∀ b ∈ M2, b < 256) := Lib.hid (gM2 ▸ fun b h => hb2 b (List.mem_of_mem_take h))
  have hM162 : M2.length ≤ 16400 := by rw [← gM2, List.length_take]; omega
  have HF2 : RowKit.Hid _ := Lib.hid (fun w' (h' : RdS w' w'.heap.size 1 A2 n2 c2 (rowsV f8 L2)) => hF2 w' h' hn2)
  have RM2 := Lib.hid hRM2
  have LM2 : RowKit.Hid (∀ a, A2 = some a → 0 < M2.length → a.block < w.heap.size) := Lib.hid hRM2.low
  have RL2 := Lib.hid h2
  have LL2 : RowKit.Hid (∀ a, A2 = some a → 0 < n2 → a.block < w.heap.size) := Lib.hid h2.low
  clear hF2 hRM2 h2 hb2 hn2 hl2
  try rw [gM] at hM
  try rw [gM2] at hM2
  try rw [gM] at hz
  try rw [gM2] at hz2
  try rw [gM] at hat
  have hM1 : decide ((1000 : Int) < (M.length : Int)) = false := by first | exact decide_eq_true (by omega) | exact decide_eq_false (by omega)
  have hM12 : decide ((1000 : Int) < (M2.length : Int)) = false := by first | exact decide_eq_true (by omega) | exact decide_eq_false (by omega)
  obtain ⟨nP, gnP⟩ : ∃ x, (putF f M).length = x := ⟨_, rfl⟩
  have HPo : RowKit.Hid (∀ W, RdS W W.heap.size 1 A M.length c (rowsV f8 M) → Calls Try.prog 11 #[.agg (frCells f A M.length c).toArray] W fun e w' => ∃ A' c', e = .returned (.tuple #[.slice A' nP c', .int .i64 0]) ∧ w'.ownsRow W.heap.size 5 1 (.slice A' nP c') nP (rowsV f8 (putF f M)) ∧ Below W.heap.size W w') := Lib.hid (fun W hr => by rw [← gnP]; exact put_own f A M.length c M W hz hr HbM.out)
  have HTP := Lib.hid (fun A1 c1 W (h : RdS W W.heap.size 1 A1 nP c1 (rowsV f8 (putF f M))) => take_t A1 nP c1 (putF f M) W f M 0 (take_of_put hz) h (putF_lt hz HbM.out) (by rw [← gnP, putF_len]; omega))
  have HPl : RowKit.Hid (nP = 19 + M.length) := Lib.hid (by rw [← gnP, putF_len])
  have HgP := Lib.hid gnP
  have Hz := Lib.hid hz
  have HM := Lib.hid hM
  have HPg := Lib.hid (fun W hr => puts_to f2 A2 c2 M2 W hr HbM2.out)
  have hap := apart_bool (f := f) (g := f2) (M := M) (N := M2) hz hz2 HbM.out HbM2.out
  have hpu : putR f2 M2 = putF f2 M2 := by unfold putR; rw [if_pos hz2]
  rw [hz2, hpu] at HPg
  obtain ⟨T1, gT1⟩ : ∃ x, txt (putF f M) = x := ⟨_, rfl⟩
  obtain ⟨T2, gT2⟩ : ∃ x, txt (putF f2 M2) = x := ⟨_, rfl⟩
  rw [gT1, gT2] at hap
  have HSm := Lib.hid (fun W h1 h2 => same_any f f2 A A2 M.length c M2.length c2 M M2 W h1 h2)
  have HSs := Lib.hid (fun A1 c1 W h1 h2 => same_any f f A1 A M.length c1 M.length c M M W h1 h2)
  rw [sameF_self] at HSs
  obtain ⟨sm, gsm⟩ : ∃ x, sameF f f2 M M2 = x := ⟨_, rfl⟩
  rw [gsm] at HSm hap
  obtain ⟨b1, gb1⟩ : ∃ x, (T1.toList == T2.toList) = x := ⟨_, rfl⟩
  rw [gb1] at hap
  have hap2 : b1 = sm := eq_of_beq hap
  rw [hap2] at gb1
  have HT1 := Lib.hid gT1
  have HT2 := Lib.hid gT2
  have Hb1 := Lib.hid gb1
  unfold frCells at HSm HSs
  clear gT1 gT2 gsm gb1 hap hap2 hpu hz2
  clear hz gnP
  clear gM gM2
  unfold frCells at HF HF2
  go_enter Try.func5, Try.ntmps5
  go_wp2_with fail
  refine (shown15 _).mono ?_
  rintro e w1 ⟨rfl, hb1⟩
  have RL_2 := Lib.hid ((((RL.out.al (.cells #[.int .i64 f.k, .int .i64 f.fr, .int .i64 f.tt, .int .i64 f.ep, .int .i64 f.sq, .int .i64 f.ac, .slice A n c] 24)).al (.cells #[.int .i64 f2.k, .int .i64 f2.fr, .int .i64 f2.tt, .int .i64 f2.ep, .int .i64 f2.sq, .int .i64 f2.ac, .slice A2 n2 c2] 24)).al (.cells #[.int .i64 at_, .int .u8 (t0 : Int), .int .u8 (t1 : Int), .int .u8 (t2 : Int), .int .u8 (t3 : Int)] 41)).bl hb1)
  have RM_2 := Lib.hid ((((RM.out.al (.cells #[.int .i64 f.k, .int .i64 f.fr, .int .i64 f.tt, .int .i64 f.ep, .int .i64 f.sq, .int .i64 f.ac, .slice A n c] 24)).al (.cells #[.int .i64 f2.k, .int .i64 f2.fr, .int .i64 f2.tt, .int .i64 f2.ep, .int .i64 f2.sq, .int .i64 f2.ac, .slice A2 n2 c2] 24)).al (.cells #[.int .i64 at_, .int .u8 (t0 : Int), .int .u8 (t1 : Int), .int .u8 (t2 : Int), .int .u8 (t3 : Int)] 41)).bl hb1)
  have RL2_2 := Lib.hid ((((RL2.out.al (.cells #[.int .i64 f.k, .int .i64 f.fr, .int .i64 f.tt, .int .i64 f.ep, .int .i64 f.sq, .int .i64 f.ac, .slice A n c] 24)).al (.cells #[.int .i64 f2.k, .int .i64 f2.fr, .int .i64 f2.tt, .int .i64 f2.ep, .int .i64 f2.sq, .int .i64 f2.ac, .slice A2 n2 c2] 24)).al (.cells #[.int .i64 at_, .int .u8 (t0 : Int), .int .u8 (t1 : Int), .int .u8 (t2 : Int), .int .u8 (t3 : Int)] 41)).bl hb1)
  have RM2_2 := Lib.hid ((((RM2.out.al (.cells #[.int .i64 f.k, .int .i64 f.fr, .int .i64 f.tt, .int .i64 f.ep, .int .i64 f.sq, .int .i64 f.ac, .slice A n c] 24)).al (.cells #[.int .i64 f2.k, .int .i64 f2.fr, .int .i64 f2.tt, .int .i64 f2.ep, .int .i64 f2.sq, .int .i64 f2.ac, .slice A2 n2 c2] 24)).al (.cells #[.int .i64 at_, .int .u8 (t0 : Int), .int .u8 (t1 : Int), .int .u8 (t2 : Int), .int .u8 (t3 : Int)] 41)).bl hb1)
  have F_2 := Lib.hid ((((show Whole (w.alloc (.cells #[.int .i64 f.k, .int .i64 f.fr, .int .i64 f.tt, .int .i64 f.ep, .int .i64 f.sq, .int .i64 f.ac, .slice A n c] 24)) (w.heap.size) (24) ([.int .i64 f.k, .int .i64 f.fr, .int .i64 f.tt, .int .i64 f.ep, .int .i64 f.sq, .int .i64 f.ac, .slice A n c]) from Whole.new2 (by first | rfl | simp)).al (.cells #[.int .i64 f2.k, .int .i64 f2.fr, .int .i64 f2.tt, .int .i64 f2.ep, .int .i64 f2.sq, .int .i64 f2.ac, .slice A2 n2 c2] 24)).al (.cells #[.int .i64 at_, .int .u8 (t0 : Int), .int .u8 (t1 : Int), .int .u8 (t2 : Int), .int .u8 (t3 : Int)] 41)).bl hb1)
  have G_2 := Lib.hid (((show Whole ((w.alloc (.cells #[.int .i64 f.k, .int .i64 f.fr, .int .i64 f.tt, .int .i64 f.ep, .int .i64 f.sq, .int .i64 f.ac, .slice A n c] 24)).alloc (.cells #[.int .i64 f2.k, .int .i64 f2.fr, .int .i64 f2.tt, .int .i64 f2.ep, .int .i64 f2.sq, .int .i64 f2.ac, .slice A2 n2 c2] 24)) ((w.heap.size + 1)) (24) ([.int .i64 f2.k, .int .i64 f2.fr, .int .i64 f2.tt, .int .i64 f2.ep, .int .i64 f2.sq, .int .i64 f2.ac, .slice A2 n2 c2]) from Whole.new2 (by first | rfl | simp)).al (.cells #[.int .i64 at_, .int .u8 (t0 : Int), .int .u8 (t1 : Int), .int .u8 (t2 : Int), .int .u8 (t3 : Int)] 41)).bl hb1)
  have X_2 := Lib.hid ((show Whole (((w.alloc (.cells #[.int .i64 f.k, .int .i64 f.fr, .int .i64 f.tt, .int .i64 f.ep, .int .i64 f.sq, .int .i64 f.ac, .slice A n c] 24)).alloc (.cells #[.int .i64 f2.k, .int .i64 f2.fr, .int .i64 f2.tt, .int .i64 f2.ep, .int .i64 f2.sq, .int .i64 f2.ac, .slice A2 n2 c2] 24)).alloc (.cells #[.int .i64 at_, .int .u8 (t0 : Int), .int .u8 (t1 : Int), .int .u8 (t2 : Int), .int .u8 (t3 : Int)] 41)) ((w.heap.size + 1 + 1)) (41) ([.int .i64 at_, .int .u8 (t0 : Int), .int .u8 (t1 : Int), .int .u8 (t2 : Int), .int .u8 (t3 : Int)]) from Whole.new2 (by first | rfl | simp)).bl hb1)
  have Bel_2 := Lib.hid (bel_bl (bel_al (bel_al (bel_al (Below.refl _ w) (.cells #[.int .i64 f.k, .int .i64 f.fr, .int .i64 f.tt, .int .i64 f.ep, .int .i64 f.sq, .int .i64 f.ac, .slice A n c] 24)) (.cells #[.int .i64 f2.k, .int .i64 f2.fr, .int .i64 f2.tt, .int .i64 f2.ep, .int .i64 f2.sq, .int .i64 f2.ac, .slice A2 n2 c2] 24)) (.cells #[.int .i64 at_, .int .u8 (t0 : Int), .int .u8 (t1 : Int), .int .u8 (t2 : Int), .int .u8 (t3 : Int)] 41)) hb1)
  clear RL RM RL2 RM2
  clear hb1
  have LO_F_3 : RowKit.Hid (w.heap.size ≤ w.heap.size) := Lib.hid (by omega)
  have LO_G_4 : RowKit.Hid (w.heap.size ≤ (w.heap.size + 1)) := Lib.hid (by omega)
  have NE_F_G : RowKit.Hid (w.heap.size ≠ (w.heap.size + 1)) := Lib.hid (by omega)
  have LO_X_5 : RowKit.Hid (w.heap.size ≤ (w.heap.size + 1 + 1)) := Lib.hid (by omega)
  have NE_F_X : RowKit.Hid (w.heap.size ≠ (w.heap.size + 1 + 1)) := Lib.hid (by omega)
  have NE_G_X : RowKit.Hid ((w.heap.size + 1) ≠ (w.heap.size + 1 + 1)) := Lib.hid (by omega)
  go_upto_region 2 with fail
  refine wp_region_lit ?_
  refine wpList_load_row rfl 24 (.tmp 3) rfl w.heap.size rfl 24 #[.int .i64 f.k, .int .i64 f.fr, .int .i64 f.tt, .int .i64 f.ep, .int .i64 f.sq, .int .i64 f.ac, .slice A n c] (0, 0) _ (F_2.out) Try.underlying24 rfl (by kernel_rfl) ?_
  simp only [Act.put, List.setIfInBounds_toArray, List.set_cons_zero, List.set_cons_succ]
  go_wp2_with fail
  refine (HF.out _ RL_2.out).mono ?_
  rintro e w6 ⟨rfl, hb6⟩
  have RL_7 := Lib.hid (RL_2.out.bl hb6)
  have RM_7 := Lib.hid (RM_2.out.bl hb6)
  have RL2_7 := Lib.hid (RL2_2.out.bl hb6)
  have RM2_7 := Lib.hid (RM2_2.out.bl hb6)
  have F_7 := Lib.hid (F_2.out.bl hb6)
  have G_7 := Lib.hid (G_2.out.bl hb6)
  have X_7 := Lib.hid (X_2.out.bl hb6)
  have Bel_7 := Lib.hid (bel_bl Bel_2.out hb6)
  clear RL_2 RM_2 RL2_2 RM2_2 F_2 G_2 X_2 Bel_2
  clear hb6
  rename_i hK
  refine hK _ _ ?_
  clear hK
  refine wpList_store_row rfl 24 (.tmp 3) (.tmp 22) rfl w.heap.size #[.int .i64 f.k, .int .i64 f.fr, .int .i64 f.tt, .int .i64 f.ep, .int .i64 f.sq, .int .i64 f.ac, .slice A M.length c] rfl rfl 24 #[.int .i64 f.k, .int .i64 f.fr, .int .i64 f.tt, .int .i64 f.ep, .int .i64 f.sq, .int .i64 f.ac, .slice A n c] (F_7.out) (by kernel_rfl) rfl (by simp [Value.oneCell']) ?_
  obtain ⟨v8, gv8⟩ : ∃ x, w6.setRow w.heap.size #[.int .i64 f.k, .int .i64 f.fr, .int .i64 f.tt, .int .i64 f.ep, .int .i64 f.sq, .int .i64 f.ac, .slice A M.length c] = x := ⟨_, rfl⟩
  have RL_8 := Lib.hid (show RdS v8 v8.heap.size _ _ _ _ _ from gv8 ▸ RdS.row_far RL_7.out (g := w.heap.size) (fun a ha hn e => by have h1 := LL.out a ha hn; have h2 := LO_F_3.out; have h3 := Option.some.inj e; omega) #[.int .i64 f.k, .int .i64 f.fr, .int .i64 f.tt, .int .i64 f.ep, .int .i64 f.sq, .int .i64 f.ac, .slice A M.length c])
  have RM_8 := Lib.hid (show RdS v8 v8.heap.size _ _ _ _ _ from gv8 ▸ RdS.row_far RM_7.out (g := w.heap.size) (fun a ha hn e => by have h1 := LM.out a ha hn; have h2 := LO_F_3.out; have h3 := Option.some.inj e; omega) #[.int .i64 f.k, .int .i64 f.fr, .int .i64 f.tt, .int .i64 f.ep, .int .i64 f.sq, .int .i64 f.ac, .slice A M.length c])
  have RL2_8 := Lib.hid (show RdS v8 v8.heap.size _ _ _ _ _ from gv8 ▸ RdS.row_far RL2_7.out (g := w.heap.size) (fun a ha hn e => by have h1 := LL2.out a ha hn; have h2 := LO_F_3.out; have h3 := Option.some.inj e; omega) #[.int .i64 f.k, .int .i64 f.fr, .int .i64 f.tt, .int .i64 f.ep, .int .i64 f.sq, .int .i64 f.ac, .slice A M.length c])
  have RM2_8 := Lib.hid (show RdS v8 v8.heap.size _ _ _ _ _ from gv8 ▸ RdS.row_far RM2_7.out (g := w.heap.size) (fun a ha hn e => by have h1 := LM2.out a ha hn; have h2 := LO_F_3.out; have h3 := Option.some.inj e; omega) #[.int .i64 f.k, .int .i64 f.fr, .int .i64 f.tt, .int .i64 f.ep, .int .i64 f.sq, .int .i64 f.ac, .slice A M.length c])
  have F_8 : RowKit.Hid (Whole v8 w.heap.size 24 [.int .i64 f.k, .int .i64 f.fr, .int .i64 f.tt, .int .i64 f.ep, .int .i64 f.sq, .int .i64 f.ac, .slice A M.length c]) := Lib.hid (gv8 ▸ Whole.row F_7.out [.int .i64 f.k, .int .i64 f.fr, .int .i64 f.tt, .int .i64 f.ep, .int .i64 f.sq, .int .i64 f.ac, .slice A M.length c])
  have G_8 := Lib.hid (show Whole v8 (w.heap.size + 1) _ _ from gv8 ▸ Whole.row_far G_7.out ((Ne.symm NE_F_G.out)) _)
  have X_8 := Lib.hid (show Whole v8 (w.heap.size + 1 + 1) _ _ from gv8 ▸ Whole.row_far X_7.out ((Ne.symm NE_F_X.out)) _)
  have Bel_8 : RowKit.Hid (Below w.heap.size w v8) := Lib.hid (gv8 ▸ below_row Bel_7.out LO_F_3.out _)
  rw [gv8]
  clear gv8
  clear RL_7 RM_7 RL2_7 RM2_7 F_7 G_7 X_7 Bel_7
  clear RL_8
  clear HF
  go_upto_region 3 with fail
  refine wp_region_lit ?_
  refine wpList_load_row rfl 24 (.tmp 4) rfl (w.heap.size + 1) rfl 24 #[.int .i64 f2.k, .int .i64 f2.fr, .int .i64 f2.tt, .int .i64 f2.ep, .int .i64 f2.sq, .int .i64 f2.ac, .slice A2 n2 c2] (0, 0) _ (G_8.out) Try.underlying24 rfl (by kernel_rfl) ?_
  simp only [Act.put, List.setIfInBounds_toArray, List.set_cons_zero, List.set_cons_succ]
  go_wp2_with fail
  refine (HF2.out _ RL2_8.out).mono ?_
  rintro e w9 ⟨rfl, hb9⟩
  have RM_10 := Lib.hid (RM_8.out.bl hb9)
  have RL2_10 := Lib.hid (RL2_8.out.bl hb9)
  have RM2_10 := Lib.hid (RM2_8.out.bl hb9)
  have F_10 := Lib.hid (F_8.out.bl hb9)
  have G_10 := Lib.hid (G_8.out.bl hb9)
  have X_10 := Lib.hid (X_8.out.bl hb9)
  have Bel_10 := Lib.hid (bel_bl Bel_8.out hb9)
  clear RM_8 RL2_8 RM2_8 F_8 G_8 X_8 Bel_8
  clear hb9
  rename_i hK
  refine hK _ _ ?_
  clear hK
  refine wpList_store_row rfl 24 (.tmp 4) (.tmp 24) rfl (w.heap.size + 1) #[.int .i64 f2.k, .int .i64 f2.fr, .int .i64 f2.tt, .int .i64 f2.ep, .int .i64 f2.sq, .int .i64 f2.ac, .slice A2 M2.length c2] rfl rfl 24 #[.int .i64 f2.k, .int .i64 f2.fr, .int .i64 f2.tt, .int .i64 f2.ep, .int .i64 f2.sq, .int .i64 f2.ac, .slice A2 n2 c2] (G_10.out) (by kernel_rfl) rfl (by simp [Value.oneCell']) ?_
  obtain ⟨v11, gv11⟩ : ∃ x, w9.setRow (w.heap.size + 1) #[.int .i64 f2.k, .int .i64 f2.fr, .int .i64 f2.tt, .int .i64 f2.ep, .int .i64 f2.sq, .int .i64 f2.ac, .slice A2 M2.length c2] = x := ⟨_, rfl⟩
  have RM_11 := Lib.hid (show RdS v11 v11.heap.size _ _ _ _ _ from gv11 ▸ RdS.row_far RM_10.out (g := (w.heap.size + 1)) (fun a ha hn e => by have h1 := LM.out a ha hn; have h2 := LO_G_4.out; have h3 := Option.some.inj e; omega) #[.int .i64 f2.k, .int .i64 f2.fr, .int .i64 f2.tt, .int .i64 f2.ep, .int .i64 f2.sq, .int .i64 f2.ac, .slice A2 M2.length c2])
  have RL2_11 := Lib.hid (show RdS v11 v11.heap.size _ _ _ _ _ from gv11 ▸ RdS.row_far RL2_10.out (g := (w.heap.size + 1)) (fun a ha hn e => by have h1 := LL2.out a ha hn; have h2 := LO_G_4.out; have h3 := Option.some.inj e; omega) #[.int .i64 f2.k, .int .i64 f2.fr, .int .i64 f2.tt, .int .i64 f2.ep, .int .i64 f2.sq, .int .i64 f2.ac, .slice A2 M2.length c2])
  have RM2_11 := Lib.hid (show RdS v11 v11.heap.size _ _ _ _ _ from gv11 ▸ RdS.row_far RM2_10.out (g := (w.heap.size + 1)) (fun a ha hn e => by have h1 := LM2.out a ha hn; have h2 := LO_G_4.out; have h3 := Option.some.inj e; omega) #[.int .i64 f2.k, .int .i64 f2.fr, .int .i64 f2.tt, .int .i64 f2.ep, .int .i64 f2.sq, .int .i64 f2.ac, .slice A2 M2.length c2])
  have F_11 := Lib.hid (show Whole v11 w.heap.size _ _ from gv11 ▸ Whole.row_far F_10.out (NE_F_G.out) _)
  have G_11 : RowKit.Hid (Whole v11 (w.heap.size + 1) 24 [.int .i64 f2.k, .int .i64 f2.fr, .int .i64 f2.tt, .int .i64 f2.ep, .int .i64 f2.sq, .int .i64 f2.ac, .slice A2 M2.length c2]) := Lib.hid (gv11 ▸ Whole.row G_10.out [.int .i64 f2.k, .int .i64 f2.fr, .int .i64 f2.tt, .int .i64 f2.ep, .int .i64 f2.sq, .int .i64 f2.ac, .slice A2 M2.length c2])
  have X_11 := Lib.hid (show Whole v11 (w.heap.size + 1 + 1) _ _ from gv11 ▸ Whole.row_far X_10.out ((Ne.symm NE_G_X.out)) _)
  have Bel_11 : RowKit.Hid (Below w.heap.size w v11) := Lib.hid (gv11 ▸ below_row Bel_10.out LO_G_4.out _)
  rw [gv11]
  clear gv11
  clear RM_10 RL2_10 RM2_10 F_10 G_10 X_10 Bel_10
  clear RL2_11
  clear HF2
  have lw12 : (v11).cell? ⟨w.heap.size, 6, none⟩ = some (.slice A M.length c) := F_11.out.cell (i := 6) rfl
  have lw13 : (v11).cell? ⟨(w.heap.size + 1), 6, none⟩ = some (.slice A2 M2.length c2) := G_11.out.cell (i := 6) rfl
  go_upto_region 6 with fail
  clear hM1 hM12 lw12 lw13
  refine wp_region_lit ?_
  refine wpList_load_row rfl 24 (.tmp 3) rfl w.heap.size rfl 24 #[.int .i64 f.k, .int .i64 f.fr, .int .i64 f.tt, .int .i64 f.ep, .int .i64 f.sq, .int .i64 f.ac, .slice A M.length c] (0, 0) _ (F_11.out) Try.underlying24 rfl (by kernel_rfl) ?_
  simp only [Act.put, List.setIfInBounds_toArray, List.set_cons_zero, List.set_cons_succ]
  have HPc := Lib.hid (HPo.out v11 RM_11.out)
  unfold frCells at HPc
  go_wp2_with fail
  have HGC : RowKit.Hid (w.heap.size + 2 < v11.heap.size) := Lib.hid ((X_11.out).lt)
  refine HPc.out.mono ?_
  rintro e wp3 ⟨Aq, cq, rfl, hq, hb3⟩
  have RM_14 := Lib.hid (RM_11.out.bl hb3)
  have RM2_14 := Lib.hid (RM2_11.out.bl hb3)
  have F_14 := Lib.hid (F_11.out.bl hb3)
  have G_14 := Lib.hid (G_11.out.bl hb3)
  have X_14 := Lib.hid (X_11.out.bl hb3)
  have Bel_14 := Lib.hid (bel_bl Bel_11.out hb3)
  clear RM_11 RM2_11 F_11 G_11 X_11 Bel_11
  clear hb3 HPc HPo
  obtain ⟨A4, c4, e4, hr4⟩ := RdS.of_own hq
  injection e4 with a1 a2 a3
  subst a1 a3
  have RA := Lib.hid hr4
  clear hr4
  obtain ⟨ga, cap, cur, eq1, hga, hgh, hle, hcm, hcs, htk⟩ : ∃ ga cap cur, Value.slice Aq nP cq = .slice (some ⟨ga, 0, none⟩) nP cap ∧ v11.heap.size ≤ ga ∧ wp3.heap[ga]? = some (.cells cur 5 (0, 0)) ∧ nP ≤ cap ∧ cap ≤ maxLen ∧ cur.size = cap * 1 ∧ cur.toList.take (nP * 1) = rowsV f8 (putF f M) := by
    rcases hq.2 with ⟨_, h0⟩ | h1
    · have := HPl.out; omega
    · exact h1
  injection eq1 with a1 a2 a3
  subst a1 a3
  have RG : RowKit.Hid (Whole wp3 ga 5 cur.toList) := Lib.hid (by unfold Whole; rw [Array.toArray_toList]; exact hgh)
  have HCL : RowKit.Hid (cur.toList.length = cq) := Lib.hid (by rw [Array.length_toList]; omega)
  have HTK : RowKit.Hid (cur.toList.take (putF f M).length = rowsV f8 (putF f M)) := Lib.hid (by rw [HgP.out]; rwa [Nat.mul_one] at htk)
  have HGA : RowKit.Hid (w.heap.size + 2 < ga) := Lib.hid (Nat.lt_of_lt_of_le HGC.out hga)
  have hcq : nP ≤ cq := hle
  have hnP : nP ≤ 2000 := by have h1 := HPl.out; have h2 := HM.out; omega
  clear hga hgh hcm hcs htk hq hle HGC
  go_upto_region 7 with fail
  refine wp_region_lit ?_
  refine wpList_load_row rfl 24 (.tmp 4) rfl (w.heap.size + 1) rfl 24 #[.int .i64 f2.k, .int .i64 f2.fr, .int .i64 f2.tt, .int .i64 f2.ep, .int .i64 f2.sq, .int .i64 f2.ac, .slice A2 M2.length c2] (0, 0) _ (G_14.out) Try.underlying24 rfl (by kernel_rfl) ?_
  simp only [Act.put, List.setIfInBounds_toArray, List.set_cons_zero, List.set_cons_succ]
  have HPc := Lib.hid (HPg.out wp3 RM2_14.out)
  unfold frCells at HPc
  go_wp2_with fail
  refine HPc.out.mono ?_
  rintro e wp4 ⟨Ap, np, cp, rfl, hp, hb4⟩
  have RM_15 := Lib.hid (RM_14.out.bl hb4)
  have RM2_15 := Lib.hid (RM2_14.out.bl hb4)
  have F_15 := Lib.hid (F_14.out.bl hb4)
  have G_15 := Lib.hid (G_14.out.bl hb4)
  have X_15 := Lib.hid (X_14.out.bl hb4)
  have RA_15 := Lib.hid (RA.out.bl hb4)
  have RG_15 := Lib.hid (RG.out.bl hb4)
  have Bel_15 := Lib.hid (bel_bl Bel_14.out hb4)
  clear RM_14 RM2_14 F_14 G_14 X_14 RA RG Bel_14
  have RP := Lib.hid hp
  clear hb4 HPc HPg hp
  go_upto_region 10 with fail
  go_wp2_with fail
  refine (HTP.out _ _ _ RA_15.out).mono ?_
  rintro e wp5 ⟨At, ct, rfl, hrt, -, hb5⟩
  have RM_16 := Lib.hid (RM_15.out.bl hb5)
  have RM2_16 := Lib.hid (RM2_15.out.bl hb5)
  have F_16 := Lib.hid (F_15.out.bl hb5)
  have G_16 := Lib.hid (G_15.out.bl hb5)
  have X_16 := Lib.hid (X_15.out.bl hb5)
  have RA_16 := Lib.hid (RA_15.out.bl hb5)
  have RG_16 := Lib.hid (RG_15.out.bl hb5)
  have RP_16 := Lib.hid (RP.out.bl hb5)
  have Bel_16 := Lib.hid (bel_bl Bel_15.out hb5)
  clear RM_15 RM2_15 F_15 G_15 X_15 RA_15 RG_15 RP Bel_15
  have RT := Lib.hid hrt
  clear hb5 HTP hrt
  unfold frCells
  go_upto_region 11 with fail
  have NE_F_Y_17 : RowKit.Hid (w.heap.size ≠ wp5.heap.size) := Lib.hid (by have := (F_16.out).lt; omega)
  have NE_G_Y_17 : RowKit.Hid ((w.heap.size + 1) ≠ wp5.heap.size) := Lib.hid (by have := (G_16.out).lt; omega)
  have NE_X_Y_17 : RowKit.Hid ((w.heap.size + 1 + 1) ≠ wp5.heap.size) := Lib.hid (by have := (X_16.out).lt; omega)
  have NE_RG_Y_17 : RowKit.Hid (ga ≠ wp5.heap.size) := Lib.hid (by have := (RG_16.out).lt; omega)
  have LO_Y_17 : RowKit.Hid (w.heap.size ≤ wp5.heap.size) := Lib.hid (Bel_16.out).size
  have RM_18 := Lib.hid ((RM_16.out.al (.cells (#[.int .i64 f.k, .int .i64 f.fr, .int .i64 f.tt, .int .i64 f.ep, .int .i64 f.sq, .int .i64 f.ac, .slice At M.length ct]) 24)))
  have RM2_18 := Lib.hid ((RM2_16.out.al (.cells (#[.int .i64 f.k, .int .i64 f.fr, .int .i64 f.tt, .int .i64 f.ep, .int .i64 f.sq, .int .i64 f.ac, .slice At M.length ct]) 24)))
  have F_18 := Lib.hid ((F_16.out.al (.cells (#[.int .i64 f.k, .int .i64 f.fr, .int .i64 f.tt, .int .i64 f.ep, .int .i64 f.sq, .int .i64 f.ac, .slice At M.length ct]) 24)))
  have G_18 := Lib.hid ((G_16.out.al (.cells (#[.int .i64 f.k, .int .i64 f.fr, .int .i64 f.tt, .int .i64 f.ep, .int .i64 f.sq, .int .i64 f.ac, .slice At M.length ct]) 24)))
  have X_18 := Lib.hid ((X_16.out.al (.cells (#[.int .i64 f.k, .int .i64 f.fr, .int .i64 f.tt, .int .i64 f.ep, .int .i64 f.sq, .int .i64 f.ac, .slice At M.length ct]) 24)))
  have RA_18 := Lib.hid ((RA_16.out.al (.cells (#[.int .i64 f.k, .int .i64 f.fr, .int .i64 f.tt, .int .i64 f.ep, .int .i64 f.sq, .int .i64 f.ac, .slice At M.length ct]) 24)))
  have RG_18 := Lib.hid ((RG_16.out.al (.cells (#[.int .i64 f.k, .int .i64 f.fr, .int .i64 f.tt, .int .i64 f.ep, .int .i64 f.sq, .int .i64 f.ac, .slice At M.length ct]) 24)))
  have RP_18 := Lib.hid ((RP_16.out.al (.cells (#[.int .i64 f.k, .int .i64 f.fr, .int .i64 f.tt, .int .i64 f.ep, .int .i64 f.sq, .int .i64 f.ac, .slice At M.length ct]) 24)))
  have RT_18 := Lib.hid ((RT.out.al (.cells (#[.int .i64 f.k, .int .i64 f.fr, .int .i64 f.tt, .int .i64 f.ep, .int .i64 f.sq, .int .i64 f.ac, .slice At M.length ct]) 24)))
  have Y_18 := Lib.hid ((show Whole (wp5.alloc (.cells (#[.int .i64 f.k, .int .i64 f.fr, .int .i64 f.tt, .int .i64 f.ep, .int .i64 f.sq, .int .i64 f.ac, .slice At M.length ct]) 24)) (wp5.heap.size) (24) ([.int .i64 f.k, .int .i64 f.fr, .int .i64 f.tt, .int .i64 f.ep, .int .i64 f.sq, .int .i64 f.ac, .slice At M.length ct]) from Whole.new2 (by first | rfl | simp)))
  have Bel_18 := Lib.hid (bel_al Bel_16.out (.cells (#[.int .i64 f.k, .int .i64 f.fr, .int .i64 f.tt, .int .i64 f.ep, .int .i64 f.sq, .int .i64 f.ac, .slice At M.length ct]) 24))
  obtain ⟨v18, gv18⟩ : ∃ x, (wp5.alloc (.cells (#[.int .i64 f.k, .int .i64 f.fr, .int .i64 f.tt, .int .i64 f.ep, .int .i64 f.sq, .int .i64 f.ac, .slice At M.length ct]) 24)) = x := ⟨_, rfl⟩
  rw [gv18] at RM_18 RM2_18 F_18 G_18 X_18 RA_18 RG_18 RP_18 RT_18 Y_18 Bel_18 ⊢
  clear gv18
  clear RM_16 RM2_16 F_16 G_16 X_16 RA_16 RG_16 RP_16 RT Bel_16
  obtain ⟨g19, gg19⟩ : ∃ x, wp5.heap.size = x := ⟨_, rfl⟩
  rw [gg19] at Y_18 LO_Y_17 NE_F_Y_17 NE_G_Y_17 NE_X_Y_17 NE_RG_Y_17 
  rw [gg19]
  clear gg19
  refine wp_region_lit ?_
  refine wpList_load_row rfl 24 (.tmp 12) rfl g19 rfl 24 #[.int .i64 f.k, .int .i64 f.fr, .int .i64 f.tt, .int .i64 f.ep, .int .i64 f.sq, .int .i64 f.ac, .slice At M.length ct] (0, 0) _ (Y_18.out) Try.underlying24 rfl (by kernel_rfl) ?_
  simp only [Act.put, List.setIfInBounds_toArray, List.set_cons_zero, List.set_cons_succ]
  refine wpList_load_row rfl 24 (.tmp 3) rfl w.heap.size rfl 24 #[.int .i64 f.k, .int .i64 f.fr, .int .i64 f.tt, .int .i64 f.ep, .int .i64 f.sq, .int .i64 f.ac, .slice A M.length c] (0, 0) _ (F_18.out) Try.underlying24 rfl (by kernel_rfl) ?_
  simp only [Act.put, List.setIfInBounds_toArray, List.set_cons_zero, List.set_cons_succ]
  go_wp2_with fail
  refine (HSs.out _ _ _ RT_18.out RM_18.out).mono ?_
  rintro e w20 ⟨rfl, hb20⟩
  have RM_21 := Lib.hid (RM_18.out.bl hb20)
  have RM2_21 := Lib.hid (RM2_18.out.bl hb20)
  have F_21 := Lib.hid (F_18.out.bl hb20)
  have G_21 := Lib.hid (G_18.out.bl hb20)
  have X_21 := Lib.hid (X_18.out.bl hb20)
  have RA_21 := Lib.hid (RA_18.out.bl hb20)
  have RG_21 := Lib.hid (RG_18.out.bl hb20)
  have RP_21 := Lib.hid (RP_18.out.bl hb20)
  have RT_21 := Lib.hid (RT_18.out.bl hb20)
  have Y_21 := Lib.hid (Y_18.out.bl hb20)
  have Bel_21 := Lib.hid (bel_bl Bel_18.out hb20)
  clear RM_18 RM2_18 F_18 G_18 X_18 RA_18 RG_18 RP_18 RT_18 Y_18 Bel_18
  clear hb20
  clear RT_21 Y_21
  clear HSs
  go_upto_region 12 with fail
  refine wp_region_lit ?_
  refine wpList_load_row rfl 24 (.tmp 3) rfl w.heap.size rfl 24 #[.int .i64 f.k, .int .i64 f.fr, .int .i64 f.tt, .int .i64 f.ep, .int .i64 f.sq, .int .i64 f.ac, .slice A M.length c] (0, 0) _ (F_21.out) Try.underlying24 rfl (by kernel_rfl) ?_
  simp only [Act.put, List.setIfInBounds_toArray, List.set_cons_zero, List.set_cons_succ]
  refine wpList_load_row rfl 24 (.tmp 4) rfl (w.heap.size + 1) rfl 24 #[.int .i64 f2.k, .int .i64 f2.fr, .int .i64 f2.tt, .int .i64 f2.ep, .int .i64 f2.sq, .int .i64 f2.ac, .slice A2 M2.length c2] (0, 0) _ (G_21.out) Try.underlying24 rfl (by kernel_rfl) ?_
  simp only [Act.put, List.setIfInBounds_toArray, List.set_cons_zero, List.set_cons_succ]
  go_wp2_with fail
  refine (HSm.out _ RM_21.out RM2_21.out).mono ?_
  rintro e w22 ⟨rfl, hb22⟩
  have RM_23 := Lib.hid (RM_21.out.bl hb22)
  have RM2_23 := Lib.hid (RM2_21.out.bl hb22)
  have F_23 := Lib.hid (F_21.out.bl hb22)
  have G_23 := Lib.hid (G_21.out.bl hb22)
  have X_23 := Lib.hid (X_21.out.bl hb22)
  have RA_23 := Lib.hid (RA_21.out.bl hb22)
  have RG_23 := Lib.hid (RG_21.out.bl hb22)
  have RP_23 := Lib.hid (RP_21.out.bl hb22)
  have Bel_23 := Lib.hid (bel_bl Bel_21.out hb22)
  clear RM_21 RM2_21 F_21 G_21 X_21 RA_21 RG_21 RP_21 Bel_21
  clear hb22
  clear HSm
  clear RM_23 RM2_23 F_23 G_23
  have hca := conv_txt RA_23.out
  have hcb := conv_txt RP_23.out
  rw [HT1.out] at hca
  rw [HT2.out] at hcb
  have hb1 := Hb1.out
  clear RP_23
  go_upto_region 15 with fail
  clear hca hcb hb1 HT1 HT2 Hb1
  clear RA_23
  have lw24 : (w22).cell? ⟨(w.heap.size + 1 + 1), 0, none⟩ = some (.int .i64 at_) := X_23.out.cell (i := 0) rfl
  have hat1 : decide (at_ < 0) = false := decide_eq_false (by omega)
  have hat2 : (nP : Int) ≤ at_ := by have := HPl.out; omega
  clear hat
  go_wp2
  go_ret
  exact ⟨rfl, Bel_23.out⟩

end Go.Proofs.Ytgmjehejaailpaa
