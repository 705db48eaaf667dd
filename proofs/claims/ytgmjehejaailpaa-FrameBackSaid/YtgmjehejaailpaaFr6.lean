/- FrameSums' walk. -/
import Derived.Test.YtgmjehejaailpaaFr5
import Derived.Test.YtgmjehejaailpaaSl
namespace Go.Proofs.Ytgmjehejaailpaa
open Go.RowKit
set_option linter.unusedSimpArgs false
set_option linter.unusedVariables false

theorem Ow.beside {w W W' : World} {B size n : Nat} {e : TypeId} {v : Value} {xs : List Value} {r : Option Nat} (h : Ow w B e size v n xs W) (hg : W.grownBy W' r) (hne : v.ownBlock ≠ r) (hB : ∀ k, r = some k → B ≤ k) : Ow w B e size v n xs W' :=
  ⟨h.own.kept hg (.inr hne), h.below.grown hg h.below.size (fun k e => Nat.le_trans h.lo (hB k e)), h.lo, Nat.le_trans h.hi hg.size⟩
theorem Ow.ne3 {w W : World} {B size n : Nat} {e : TypeId} {v u u' : Value} {xs : List Value} (h : Ow w B e size v n xs W) (hne : v.ownBlock ≠ u.ownBlock) (ho : u'.ownBlock = u.ownBlock ∨ u'.ownBlock = some W.heap.size) : v.ownBlock ≠ u'.ownBlock := by
  rcases ho with ho | ho
  · rw [ho]; exact hne
  · rw [ho]
    intro e
    have := (h.own.lt _ e).2
    omega
theorem min4 (ts : Array TypeId) (t : TypeId) (a b c d : Int) (W : World) : (Builtin.min_ ts t #[.int .i64 a, .int .i64 b, .int .i64 c, .int .i64 d]).run Try.prog W = .ok (.int .i64 (min (min (min a b) c) d)) W := by
  have e : ∀ x y : Int, (if y < x then y else x) = min x y := by
    intro x y
    rw [Int.min_def]
    split <;> split <;> omega
  simp [Builtin.min_, Builtin.min2, e]

/-- How many are not nought. -/
def cnt (T : List Nat) : Nat := T.countP (fun b => !(b == 0))
theorem byte_zero {r b : Nat} (hr : r < 4294967296) (hb : b < 256) (h : crcByte r b = 0) : r = b := by
  have := crcBits_zero (Nat.xor_lt_two_pow (n := 32) hr (by omega)) h
  have h2 := congrArg (· ^^^ b) this
  simpa [Nat.xor_assoc] using h2
theorem crc_calm {T : List Nat} : ∀ {r : Nat}, cnt T = 0 → r < 4294967296 → (crcL r T = 0 ↔ r = 0) := by
  induction T with
  | nil => intro r _ _; exact Iff.rfl
  | cons b T ih =>
    intro r h hr
    unfold cnt at h
    rw [List.countP_cons] at h
    have hb : b = 0 := by
      by_cases hb : b = 0
      · exact hb
      · simp [hb] at h
    subst hb
    have hT : cnt T = 0 := by simpa [cnt] using h
    show crcL (crcByte r 0) T = 0 ↔ r = 0
    rw [ih hT (crcByte_lt hr (by omega))]
    constructor
    · intro h0; exact byte_zero hr (by omega) h0
    · intro h0; subst h0; exact crcBits_none 8
theorem crc_one {T : List Nat} : cnt T = 1 → (∀ b ∈ T, b < 256) → crcL 0 T ≠ 0 := by
  induction T with
  | nil => intro h; simp [cnt] at h
  | cons b T ih =>
    intro h hT
    unfold cnt at h
    rw [List.countP_cons] at h
    show crcL (crcByte 0 b) T ≠ 0
    by_cases hb : b = 0
    · subst hb
      rw [show crcByte 0 0 = 0 from crcBits_none 8]
      exact ih (by simpa [cnt] using h) (fun x hx => hT x (by simp [hx]))
    · have h0 : cnt T = 0 := by simp [hb] at h; simpa [cnt] using h
      have hb2 := hT b (by simp)
      intro he
      have := (crc_calm h0 (crcByte_lt (by omega) hb2)).1 he
      have := byte_zero (r := 0) (by omega) hb2 this
      omega
theorem cnt_next {M : List Nat} {k t : Nat} (h : M[k]? = some t) : cnt (M.take (k + 1)) = cnt (M.take k) + if t = 0 then 0 else 1 := by
  rw [take_snoc_ M k t h, cnt, List.countP_append, cnt]
  by_cases ht : t = 0 <;> simp [ht]
theorem zip_next {L M : List Nat} {k a t : Nat} (h : L[k]? = some a) (h' : M[k]? = some t) : List.zipWith (· ^^^ ·) (L.take (k + 1)) (M.take (k + 1)) = List.zipWith (· ^^^ ·) (L.take k) (M.take k) ++ [a ^^^ t] := by
  have h1 := (List.getElem?_eq_some_iff.1 h).1
  have h2 := (List.getElem?_eq_some_iff.1 h').1
  rw [take_snoc_ L k a h, take_snoc_ M k t h', List.zipWith_append (by simp; omega)]
  rfl
theorem zip_lt {L M : List Nat} (hL : ∀ b ∈ L, b < 256) (hM : ∀ b ∈ M, b < 256) : ∀ b ∈ List.zipWith (· ^^^ ·) L M, b < 256 := by
  induction L generalizing M with
  | nil => simp
  | cons a L ih =>
    cases M with
    | nil => simp
    | cons t M =>
      intro b hb
      simp only [List.zipWith_cons_cons, List.mem_cons] at hb
      rcases hb with rfl | hb
      · exact Nat.xor_lt_two_pow (n := 8) (hL a (by simp)) (hM t (by simp))
      · exact ih (fun x hx => hL x (by simp [hx])) (fun x hx => hM x (by simp [hx])) b hb
def FsIn (W5 : World) (La Lb M : List Nat) (k : Nat) (vx vy : Value) (wr : World) : Prop :=
  Ow W5 W5.heap.size 5 1 vx k (rowsV f8 (List.zipWith (· ^^^ ·) (La.take k) (M.take k))) wr ∧ Ow W5 W5.heap.size 5 1 vy k (rowsV f8 (List.zipWith (· ^^^ ·) (Lb.take k) (M.take k))) wr ∧ vy.ownBlock ≠ vx.ownBlock

set_option maxRecDepth 100000 in
set_option maxHeartbeats 4000000 in
theorem law_sums (A1 A2 A3 : Option Addr) (n1 n2 n3 c1 c2 c3 : Nat) (La Lb M : List Nat) (w : World) (h1 : RdS w w.heap.size 1 A1 n1 c1 (rowsV f8 La)) (h2 : RdS w w.heap.size 1 A2 n2 c2 (rowsV f8 Lb)) (h3 : RdS w w.heap.size 1 A3 n3 c3 (rowsV f8 M))
    (b1 : ∀ b ∈ La, b < 256) (b2 : ∀ b ∈ Lb, b < 256) (b3 : ∀ b ∈ M, b < 256) (hn1 : n1 ≤ maxLen) (hn2 : n2 ≤ maxLen) (hn3 : n3 ≤ maxLen) :
    Calls Try.prog 7 #[.slice A1 n1 c1, .slice A2 n2 c2, .slice A3 n3 c3] w fun e w' => e = .returned (.bool true) ∧ Below w.heap.size w w' := by
  obtain ⟨i0, hi, hz0, hz1, hz2⟩ := info_parts_ info_u8
  have l1 := h1.rlen f8_len (by decide)
  have l2 := h2.rlen f8_len (by decide)
  have l3 := h3.rlen f8_len (by decide)
  unfold maxLen at hn1 hn2 hn3
  obtain ⟨m, gm⟩ : ∃ m, min (min (min n1 n2) n3) 300 = m := ⟨_, rfl⟩
  have hm1 : m ≤ n1 := by omega
  have hm2 : m ≤ n2 := by omega
  have hm3 : m ≤ n3 := by omega
  have hm4 : m ≤ 300 := by omega
  have hmin := fun W => min4 #[3, 3, 3, 3] 3 n1 n2 n3 300 W
  rw [show min (min (min (n1 : Int) n2) n3) 300 = (m : Int) by omega] at hmin
  have HLl : RowKit.Hid (La.length = n1 ∧ Lb.length = n2 ∧ M.length = n3) := Lib.hid ⟨l1, l2, l3⟩
  have HB1 := Lib.hid b1
  have HB2 := Lib.hid b2
  have HB3 := Lib.hid b3
  have RA := Lib.hid h1
  have RB := Lib.hid h2
  have RM := Lib.hid h3
  have HMM : RowKit.Hid (m ≤ n1 ∧ m ≤ n2 ∧ m ≤ n3) := Lib.hid ⟨hm1, hm2, hm3⟩
  clear h1 h2 h3 b1 b2 b3 gm l1 l2 l3 hm1 hm2 hm3 hn1 hn2 hn3
  go_enter Try.func7, Try.ntmps7
  go_wp2_with fail
  refine (shown15 _).mono ?_
  rintro e W5 ⟨rfl, hb⟩
  have Bel := Lib.hid hb
  have RA5 := Lib.hid (RA.out.bl hb)
  have RB5 := Lib.hid (RB.out.bl hb)
  have RM5 := Lib.hid (RM.out.bl hb)
  clear hb
  have HX0 : RowKit.Hid (FsIn W5 La Lb M 0 (.slice (some ⟨W5.heap.size, 0, none⟩) 0 0) (.slice (some ⟨W5.heap.size + 1, 0, none⟩) 0 0) ((W5.alloc (.cells #[] 5)).alloc (.cells #[] 5))) := Lib.hid
    ⟨(Ow.new_ (e := 5) (size := 1) (cs := #[]) (Below.refl _ _) (Nat.le_refl _) (Nat.le_refl _) (n := 0) (Nat.zero_le _) rfl).up (below1 _ _),
     by
      have := Ow.new_ (w := W5) (B := W5.heap.size) (W := W5.alloc (.cells #[] 5)) (e := 5) (size := 1) (cs := #[]) (below1 _ _) (Nat.le_refl _) (by simp) (n := 0) (Nat.zero_le _) rfl
      simpa [rowsV] using this,
     fun e => by have := Option.some.inj e; simp at this⟩
  go_wp2
  obtain ⟨W6, gW6⟩ : ∃ x, (W5.alloc (.cells #[] 5)).alloc (.cells #[] 5) = x := ⟨_, rfl⟩
  rw [gW6] at HX0 ⊢
  clear gW6 hmin
  go_loopw [9, 10, 11, 12] (fun vx vy mn i wr => ∃ k q : Nat, k ≤ m ∧ q ≤ k ∧ i = .int .i64 k ∧ mn = .int .i64 q ∧ RowKit.Hid (q = cnt (M.take k)) ∧ RowKit.Hid (FsIn W5 La Lb M k vx vy wr)) (fun _ _ _ i _ => m - (intOf i).toNat)
  case atStart => exact ⟨0, 0, Nat.zero_le _, Nat.le_refl _, rfl, rfl, Lib.hid rfl, HX0⟩
  case round =>
    clear HX0
    obtain ⟨k, q, hk, hqk, rfl, rfl, hq, hin⟩ := hrel
    obtain ⟨AX, cX, rfl, hrx⟩ := hin.out.1.rds
    obtain ⟨AY, cY, rfl, hry⟩ := hin.out.2.1.rds
    have HRX := Lib.hid hrx
    have HRY := Lib.hid hry
    clear hrx hry
    have EX : RowKit.Hid (Ext W5 wr) := Lib.hid hin.out.1.below
    by_cases hlt : k < m
    · have hMM := HMM.out
      have hLL := HLl.out
      have ha : La[k]? = some (La[k]'(by omega)) := List.getElem?_eq_getElem _
      have hb : Lb[k]? = some (Lb[k]'(by omega)) := List.getElem?_eq_getElem _
      have ht : M[k]? = some (M[k]'(by omega)) := List.getElem?_eq_getElem _
      obtain ⟨a, ga⟩ : ∃ x, La[k]'(by omega) = x := ⟨_, rfl⟩
      obtain ⟨b, gb⟩ : ∃ x, Lb[k]'(by omega) = x := ⟨_, rfl⟩
      obtain ⟨t, gt⟩ : ∃ x, M[k]'(by omega) = x := ⟨_, rfl⟩
      rw [ga] at ha
      rw [gb] at hb
      rw [gt] at ht
      have ka : k < n1 := by omega
      have kb : k < n2 := by omega
      have kt : k < n3 := by omega
      have ha2 := HB1.out a (List.mem_of_getElem? ha)
      have hb2 := HB2.out b (List.mem_of_getElem? hb)
      have ht2 := HB3.out t (List.mem_of_getElem? ht)
      obtain ⟨ba, oa, rfl, hba, hpa⟩ := RA5.out.place f8_len (by decide) (by omega)
      obtain ⟨bb, ob, rfl, hbb, hpb⟩ := RB5.out.place f8_len (by decide) (by omega)
      obtain ⟨bt, ot, rfl, hbt, hpt⟩ := RM5.out.place f8_len (by decide) (by omega)
      have ca := hpa k a ha 0 (.int .u8 (a : Int)) rfl
      have cb := hpb k b hb 0 (.int .u8 (b : Int)) rfl
      have ct := hpt k t ht 0 (.int .u8 (t : Int)) rfl
      rw [Addr.add_lit] at ca cb ct
      simp only [Nat.add_zero, Nat.mul_one] at ca cb ct
      have za := zip_next ha ht
      have zb := zip_next hb ht
      have cn := cnt_next ht
      have x1 := u8_xor_nat a t ha2 ht2
      have x2 := u8_xor_nat b t hb2 ht2
      obtain ⟨y1, gy1⟩ : ∃ y, a ^^^ t = y := ⟨_, rfl⟩
      obtain ⟨y2, gy2⟩ : ∃ y, b ^^^ t = y := ⟨_, rfl⟩
      rw [gy1] at x1 za
      rw [gy2] at x2 zb
      have ZA := Lib.hid za
      have ZB := Lib.hid zb
      have CN := Lib.hid cn
      have HX1 := Lib.hid x1
      have HX2 := Lib.hid x2
      have CA := Lib.hid ca
      have CB := Lib.hid cb
      have CT := Lib.hid ct
      have PA := Lib.hid hba
      have PB := Lib.hid hbb
      have PT := Lib.hid hbt
      clear ga gb gt ha hb ht ha2 hb2 ht2 hpa hpb hpt gy1 gy2 za zb cn x1 x2 ca cb ct hba hbb hbt hMM hLL
      go_upto_region 9 with fail
      have RX9 := Lib.hid (hin.out.1.up ((Below.refl _ _).drew))
      have RY9 := Lib.hid (hin.out.2.1.up ((Below.refl _ _).drew))
      have NYX := Lib.hid hin.out.2.2
      have NXY := Lib.hid (Ne.symm hin.out.2.2)
      have EX9 : RowKit.Hid (Ext W5 wr.drew) := Lib.hid (EX.out.trans ((Below.refl _ _).drew))
      have LEN : RowKit.Hid (k ≤ 300) := Lib.hid (by omega)
      clear hin
      obtain ⟨B0, hB0⟩ : ∃ x, W5.heap.size = x := ⟨_, rfl⟩
      have HB0 := Lib.hid hB0
      rw [hB0] at RX9 RY9
      clear hB0
      have lA9 : ∀ w', Kept (From_ B0) wr.drew w' → w'.cell? ⟨ba, oa + k, none⟩ = some (.int .u8 (a : Int)) := fun w' h => h.from_cell (Nat.lt_of_lt_of_eq PA.out HB0.out) (EX9.out.cell CA.out)
      have lT9 : ∀ w', Kept (From_ B0) wr.drew w' → w'.cell? ⟨bt, ot + k, none⟩ = some (.int .u8 (t : Int)) := fun w' h => h.from_cell (Nat.lt_of_lt_of_eq PT.out HB0.out) (EX9.out.cell CT.out)
      have hxx := HX1.out
      refine wp_region_reg (From_ B0) (by kernel_rfl) ?_
      apply wpR_next 0 (some 30)
      · simp only [List.getElem?_toArray, List.getElem?_cons_succ, List.getElem?_cons_zero]; exact rfl
      · rfl
      · kernel_rfl
      · kernel_rfl
      · kernel_rfl
      · first | exact fun _ _ _ _ h => Exit.noConfusion h.1 | exact fun _ _ _ _ h => h
      apply Exists.intro
      apply And.intro
      · apply yr_run; rfl; intro w' hw'; go_simp; (try with_reducible rfl)
      simp only [Act.put, List.setIfInBounds_toArray, List.set_cons_zero, List.set_cons_succ]
      apply wpR_next 1 (some 31)
      · simp only [List.getElem?_toArray, List.getElem?_cons_succ, List.getElem?_cons_zero]; exact rfl
      · rfl
      · kernel_rfl
      · kernel_rfl
      · kernel_rfl
      · first | exact fun _ _ _ _ h => Exit.noConfusion h.1 | exact fun _ _ _ _ h => h
      apply Exists.intro
      apply And.intro
      · apply yr_run; rfl; intro w' hw'; go_simp; (try with_reducible rfl)
      simp only [Act.put, List.setIfInBounds_toArray, List.set_cons_zero, List.set_cons_succ]
      apply wpR_next 2 (some 32)
      · simp only [List.getElem?_toArray, List.getElem?_cons_succ, List.getElem?_cons_zero]; exact rfl
      · rfl
      · kernel_rfl
      · kernel_rfl
      · kernel_rfl
      · first | exact fun _ _ _ _ h => Exit.noConfusion h.1 | exact fun _ _ _ _ h => h
      apply Exists.intro
      apply And.intro
      · apply yr_run; rfl; intro w' hw'; go_simp; (try with_reducible rfl)
      simp only [Act.put, List.setIfInBounds_toArray, List.set_cons_zero, List.set_cons_succ]
      apply wpR_next 3 (some 33)
      · simp only [List.getElem?_toArray, List.getElem?_cons_succ, List.getElem?_cons_zero]; exact rfl
      · rfl
      · kernel_rfl
      · kernel_rfl
      · kernel_rfl
      · first | exact fun _ _ _ _ h => Exit.noConfusion h.1 | exact fun _ _ _ _ h => h
      apply Exists.intro
      apply And.intro
      · apply yr_run; rfl; intro w' hw'; go_simp; (try with_reducible rfl)
      simp only [Act.put, List.setIfInBounds_toArray, List.set_cons_zero, List.set_cons_succ]
      apply wpR_next 4 (some 34)
      · simp only [List.getElem?_toArray, List.getElem?_cons_succ, List.getElem?_cons_zero]; exact rfl
      · rfl
      · kernel_rfl
      · kernel_rfl
      · kernel_rfl
      · first | exact fun _ _ _ _ h => Exit.noConfusion h.1 | exact fun _ _ _ _ h => h
      apply Exists.intro
      apply And.intro
      · apply yr_run; rfl; intro w' hw'; go_simp; (try with_reducible rfl)
      simp only [Act.put, List.setIfInBounds_toArray, List.set_cons_zero, List.set_cons_succ]
      apply wpR_next 5 (some 35)
      · simp only [List.getElem?_toArray, List.getElem?_cons_succ, List.getElem?_cons_zero]; exact rfl
      · rfl
      · kernel_rfl
      · kernel_rfl
      · kernel_rfl
      · first | exact fun _ _ _ _ h => Exit.noConfusion h.1 | exact fun _ _ _ _ h => h
      apply Exists.intro
      apply And.intro
      · apply yr_run; rfl; intro w' hw'; go_simp; (try with_reducible rfl)
      simp only [Act.put, List.setIfInBounds_toArray, List.set_cons_zero, List.set_cons_succ]
      apply wpR_next 6 (some 36)
      · simp only [List.getElem?_toArray, List.getElem?_cons_succ, List.getElem?_cons_zero]; exact rfl
      · rfl
      · kernel_rfl
      · kernel_rfl
      · kernel_rfl
      · first | exact fun _ _ _ _ h => Exit.noConfusion h.1 | exact fun _ _ _ _ h => h
      apply Exists.intro
      apply And.intro
      · apply yr_run; rfl; intro w' hw'; go_simp; (try with_reducible rfl)
      simp only [Act.put, List.setIfInBounds_toArray, List.set_cons_zero, List.set_cons_succ]
      apply wpR_next 7 (some 37)
      · simp only [List.getElem?_toArray, List.getElem?_cons_succ, List.getElem?_cons_zero]; exact rfl
      · rfl
      · kernel_rfl
      · kernel_rfl
      · kernel_rfl
      · first | exact fun _ _ _ _ h => Exit.noConfusion h.1 | exact fun _ _ _ _ h => h
      apply Exists.intro
      apply And.intro
      · apply yr_run; rfl; intro w' hw'; go_simp; (try with_reducible rfl)
      simp only [Act.put, List.setIfInBounds_toArray, List.set_cons_zero, List.set_cons_succ]
      apply wpR_next 8 (some 38)
      · simp only [List.getElem?_toArray, List.getElem?_cons_succ, List.getElem?_cons_zero]; exact rfl
      · rfl
      · kernel_rfl
      · kernel_rfl
      · kernel_rfl
      · first | exact fun _ _ _ _ h => Exit.noConfusion h.1 | exact fun _ _ _ _ h => h
      apply Exists.intro
      apply And.intro
      · apply yr_run; rfl; intro w' hw'; go_simp; (try with_reducible rfl)
      simp only [Act.put, List.setIfInBounds_toArray, List.set_cons_zero, List.set_cons_succ]
      apply wpR_next 9 (some 39)
      · simp only [List.getElem?_toArray, List.getElem?_cons_succ, List.getElem?_cons_zero]; exact rfl
      · rfl
      · kernel_rfl
      · kernel_rfl
      · kernel_rfl
      · first | exact fun _ _ _ _ h => Exit.noConfusion h.1 | exact fun _ _ _ _ h => h
      apply Exists.intro
      apply And.intro
      · apply yr_run; rfl; intro w' hw'; go_simp; (try with_reducible rfl)
      simp only [Act.put, List.setIfInBounds_toArray, List.set_cons_zero, List.set_cons_succ]
      refine wpR_one 10 (by kernel_rfl) ?_
      apply at_run 10 (some 40)
      · simp only [List.getElem?_toArray, List.getElem?_cons_succ, List.getElem?_cons_zero]; exact rfl
      · rfl
      · rfl
      intro w' hw'
      have RX_0_2 := Lib.hid (Ow.up RX9.out (hw'))
      have RY_0_2 := Lib.hid (Ow.up RY9.out (hw'))
      have E_0_2 := Lib.hid (Ext.trans EX9.out (hw'))
      refine ⟨.slice (some ⟨w'.heap.size, 0, none⟩) 1 1, w'.alloc (.cells (#[.int .u8 ((y1 : Nat) : Int)]) 5), exec_buildSlice 22 5 1 #[(0, .tmp 39)] (by rfl) Try.underlying22 _ (by kernel_rfl), Kept.of_below (below1 _ _), ?_⟩
      have NE_X_S_0_1 : RowKit.Hid (some w'.heap.size ≠ _) := Lib.hid (Ow.ne_ RX_0_2.out (Nat.le_refl _))
      have NE_Y_S_0_1 : RowKit.Hid (some w'.heap.size ≠ _) := Lib.hid (Ow.ne_ RY_0_2.out (Nat.le_refl _))
      have RX_0_3 := Lib.hid (Ow.up RX_0_2.out (below1 w' (.cells (#[.int .u8 ((y1 : Nat) : Int)]) 5)))
      have RY_0_3 := Lib.hid (Ow.up RY_0_2.out (below1 w' (.cells (#[.int .u8 ((y1 : Nat) : Int)]) 5)))
      have E_0_3 := Lib.hid (Ext.trans E_0_2.out (below1 w' (.cells (#[.int .u8 ((y1 : Nat) : Int)]) 5)))
      have US_n0_1 : RowKit.Hid (RdS (w'.alloc (.cells (#[.int .u8 ((y1 : Nat) : Int)]) 5)) (w'.alloc (.cells (#[.int .u8 ((y1 : Nat) : Int)]) 5)).heap.size 1 (some ⟨w'.heap.size, 0, none⟩) 1 1 (rowsV f8 [y1])) := Lib.hid (RdS.of_whole (Whole.new_ _ _ _) rfl)
      have hkk : Kept (From_ B0) wr.drew (w'.alloc (.cells (#[.int .u8 ((y1 : Nat) : Int)]) 5)) := (Kept.of_ext hw').trans (Kept.of_below (below1 _ _))
      obtain ⟨v0_4, gv0_4⟩ : ∃ x, w'.alloc (.cells (#[.int .u8 ((y1 : Nat) : Int)]) 5) = x := ⟨_, rfl⟩
      rw [gv0_4] at RX_0_3 RY_0_3 US_n0_1 E_0_3 hkk ⊢
      have ldt0_5 := fun w'' (h : Kept (From_ B0) v0_4 w'') => lA9 w'' (hkk.trans h)
      have ldt0_6 := fun w'' (h : Kept (From_ B0) v0_4 w'') => lT9 w'' (hkk.trans h)
      clear lA9 lT9
      clear gv0_4 hkk
      obtain ⟨g0_1, gg0_1⟩ : ∃ x, w'.heap.size = x := ⟨_, rfl⟩
      rw [gg0_1] at US_n0_1 NE_X_S_0_1 NE_Y_S_0_1 ⊢
      clear gg0_1 hw'
      have NF_NE_X_S_0_1 : RowKit.Hid (∀ a, (some (⟨g0_1, 0, none⟩ : Addr)) = some a → 0 < 1 → some a.block ≠ _) := Lib.hid (fun a ha _ => by obtain rfl := Option.some.inj ha; exact NE_X_S_0_1.out)
      have NF_NE_Y_S_0_1 : RowKit.Hid (∀ a, (some (⟨g0_1, 0, none⟩ : Addr)) = some a → 0 < 1 → some a.block ≠ _) := Lib.hid (fun a ha _ => by obtain rfl := Option.some.inj ha; exact NE_Y_S_0_1.out)
      try simp only [Act.put, List.setIfInBounds_toArray, List.set_cons_zero, List.set_cons_succ]
      refine wpR_one 11 (by kernel_rfl) ?_
      apply at_run 11 (some 41)
      · simp only [List.getElem?_toArray, List.getElem?_cons_succ, List.getElem?_cons_zero]; exact rfl
      · rfl
      · rfl
      intro w' hw'
      have RX_0_8 := Lib.hid (Ow.up RX_0_3.out (hw'))
      have RY_0_8 := Lib.hid (Ow.up RY_0_3.out (hw'))
      have US_0_8 := Lib.hid (RdS.bl US_n0_1.out (hw'))
      have E_0_8 := Lib.hid (Ext.trans E_0_3.out (hw'))
      obtain ⟨vv, w'', hrun, ho, hb, hg, hbk⟩ := Ow.app2 (P := Try.prog) 22 22 5 i0 _ 1 1 _ Try.underlying22 hi hz0 hz1 hz2 rfl (by decide) _ _ _ RX_0_8.out _ _ _ _ _ (US_0_8.out) (f8_all [y1]) (by unfold maxLen; omega) (by omega)
      refine ⟨vv, w'', exec_append (by rfl) (by rfl) (by rfl) hrun, Kept.of_from hb, ?_⟩
      have US_0_7 := Lib.hid (RdS.grown US_0_8.out hg NF_NE_X_S_0_1.out)
      have NE_X_S_0_7 : RowKit.Hid (∀ a, (some (⟨g0_1, 0, none⟩ : Addr)) = some a → 0 < 1 → some a.block ≠ _) := Lib.hid (fun a ha hn => Ow.ne2 (NF_NE_X_S_0_1.out a ha hn) (US_0_8.out.low a ha hn) hbk)
      have RY_0_7 := Lib.hid (Ow.beside RY_0_8.out hg NYX.out (fun kk e => (RX_0_8.out.own.lt kk e).1))
      have NE_X_Y_0_7 := Lib.hid (Ow.ne3 RY_0_8.out NYX.out hbk)
      have NF_X_Y_0_7 := Lib.hid (Ne.symm NE_X_Y_0_7.out)
      have E_0_7 : RowKit.Hid (Ext W5 w'') := Lib.hid ho.below
      have hkk : Kept (From_ B0) v0_4 w'' := (Kept.of_ext hw').trans (Kept.of_from hb)
      obtain ⟨AA0_7, cc0_7, rfl, hrr⟩ := ho.rds
      have RX_0_7 := Lib.hid ho
      clear hrr
      obtain ⟨z0_7, gz0_7⟩ : ∃ x, w'' = x := ⟨_, rfl⟩
      rw [gz0_7] at RX_0_7 RY_0_7 US_0_7 E_0_7 hkk ⊢
      have ldt0_9 := fun w'' (h : Kept (From_ B0) z0_7 w'') => ldt0_5 w'' (hkk.trans h)
      have ldt0_10 := fun w'' (h : Kept (From_ B0) z0_7 w'') => ldt0_6 w'' (hkk.trans h)
      clear ldt0_5 ldt0_6
      clear hkk hrun ho hb hg hbk gz0_7 hw'
      try simp only [Act.put, List.setIfInBounds_toArray, List.set_cons_zero, List.set_cons_succ]
      apply wpR_next 12 (some 9)
      · simp only [List.getElem?_toArray, List.getElem?_cons_succ, List.getElem?_cons_zero]; exact rfl
      · rfl
      · kernel_rfl
      · kernel_rfl
      · kernel_rfl
      · first | exact fun _ _ _ _ h => Exit.noConfusion h.1 | exact fun _ _ _ _ h => h
      apply Exists.intro
      apply And.intro
      · apply yr_run; rfl; intro w' hw'; go_simp; (try with_reducible rfl)
      simp only [Act.put, List.setIfInBounds_toArray, List.set_cons_zero, List.set_cons_succ]
      refine wpR_done (by kernel_rfl) ?_ _
      intro wE hwE
      clear hxx
      have RX10 := Lib.hid ((Ow.up RX_0_7.out hwE).up ((Below.refl _ _).drew))
      have RY10 := Lib.hid ((Ow.up RY_0_7.out hwE).up ((Below.refl _ _).drew))
      have EX10 : RowKit.Hid (Ext W5 wE.drew) := Lib.hid (Ext.trans E_0_7.out (hwE.trans ((Below.refl _ _).drew)))
      clear hwE
      obtain ⟨wF, gF⟩ : ∃ x, wE = x := ⟨_, rfl⟩
      rw [gF] at RX10 RY10 EX10 ⊢
      clear gF
      go_upto_region 10 with fail
      skip
      have lA10 : ∀ w', Kept (From_ B0) wF.drew w' → w'.cell? ⟨bb, ob + k, none⟩ = some (.int .u8 (b : Int)) := fun w' h => h.from_cell (Nat.lt_of_lt_of_eq PB.out HB0.out) (EX10.out.cell CB.out)
      have lT10 : ∀ w', Kept (From_ B0) wF.drew w' → w'.cell? ⟨bt, ot + k, none⟩ = some (.int .u8 (t : Int)) := fun w' h => h.from_cell (Nat.lt_of_lt_of_eq PT.out HB0.out) (EX10.out.cell CT.out)
      have hxx := HX2.out
      refine wp_region_reg (From_ B0) (by kernel_rfl) ?_
      apply wpR_next 0 (some 42)
      · simp only [List.getElem?_toArray, List.getElem?_cons_succ, List.getElem?_cons_zero]; exact rfl
      · rfl
      · kernel_rfl
      · kernel_rfl
      · kernel_rfl
      · first | exact fun _ _ _ _ h => Exit.noConfusion h.1 | exact fun _ _ _ _ h => h
      apply Exists.intro
      apply And.intro
      · apply yr_run; rfl; intro w' hw'; go_simp; (try with_reducible rfl)
      simp only [Act.put, List.setIfInBounds_toArray, List.set_cons_zero, List.set_cons_succ]
      apply wpR_next 1 (some 43)
      · simp only [List.getElem?_toArray, List.getElem?_cons_succ, List.getElem?_cons_zero]; exact rfl
      · rfl
      · kernel_rfl
      · kernel_rfl
      · kernel_rfl
      · first | exact fun _ _ _ _ h => Exit.noConfusion h.1 | exact fun _ _ _ _ h => h
      apply Exists.intro
      apply And.intro
      · apply yr_run; rfl; intro w' hw'; go_simp; (try with_reducible rfl)
      simp only [Act.put, List.setIfInBounds_toArray, List.set_cons_zero, List.set_cons_succ]
      apply wpR_next 2 (some 44)
      · simp only [List.getElem?_toArray, List.getElem?_cons_succ, List.getElem?_cons_zero]; exact rfl
      · rfl
      · kernel_rfl
      · kernel_rfl
      · kernel_rfl
      · first | exact fun _ _ _ _ h => Exit.noConfusion h.1 | exact fun _ _ _ _ h => h
      apply Exists.intro
      apply And.intro
      · apply yr_run; rfl; intro w' hw'; go_simp; (try with_reducible rfl)
      simp only [Act.put, List.setIfInBounds_toArray, List.set_cons_zero, List.set_cons_succ]
      apply wpR_next 3 (some 45)
      · simp only [List.getElem?_toArray, List.getElem?_cons_succ, List.getElem?_cons_zero]; exact rfl
      · rfl
      · kernel_rfl
      · kernel_rfl
      · kernel_rfl
      · first | exact fun _ _ _ _ h => Exit.noConfusion h.1 | exact fun _ _ _ _ h => h
      apply Exists.intro
      apply And.intro
      · apply yr_run; rfl; intro w' hw'; go_simp; (try with_reducible rfl)
      simp only [Act.put, List.setIfInBounds_toArray, List.set_cons_zero, List.set_cons_succ]
      apply wpR_next 4 (some 46)
      · simp only [List.getElem?_toArray, List.getElem?_cons_succ, List.getElem?_cons_zero]; exact rfl
      · rfl
      · kernel_rfl
      · kernel_rfl
      · kernel_rfl
      · first | exact fun _ _ _ _ h => Exit.noConfusion h.1 | exact fun _ _ _ _ h => h
      apply Exists.intro
      apply And.intro
      · apply yr_run; rfl; intro w' hw'; go_simp; (try with_reducible rfl)
      simp only [Act.put, List.setIfInBounds_toArray, List.set_cons_zero, List.set_cons_succ]
      apply wpR_next 5 (some 47)
      · simp only [List.getElem?_toArray, List.getElem?_cons_succ, List.getElem?_cons_zero]; exact rfl
      · rfl
      · kernel_rfl
      · kernel_rfl
      · kernel_rfl
      · first | exact fun _ _ _ _ h => Exit.noConfusion h.1 | exact fun _ _ _ _ h => h
      apply Exists.intro
      apply And.intro
      · apply yr_run; rfl; intro w' hw'; go_simp; (try with_reducible rfl)
      simp only [Act.put, List.setIfInBounds_toArray, List.set_cons_zero, List.set_cons_succ]
      apply wpR_next 6 (some 48)
      · simp only [List.getElem?_toArray, List.getElem?_cons_succ, List.getElem?_cons_zero]; exact rfl
      · rfl
      · kernel_rfl
      · kernel_rfl
      · kernel_rfl
      · first | exact fun _ _ _ _ h => Exit.noConfusion h.1 | exact fun _ _ _ _ h => h
      apply Exists.intro
      apply And.intro
      · apply yr_run; rfl; intro w' hw'; go_simp; (try with_reducible rfl)
      simp only [Act.put, List.setIfInBounds_toArray, List.set_cons_zero, List.set_cons_succ]
      apply wpR_next 7 (some 49)
      · simp only [List.getElem?_toArray, List.getElem?_cons_succ, List.getElem?_cons_zero]; exact rfl
      · rfl
      · kernel_rfl
      · kernel_rfl
      · kernel_rfl
      · first | exact fun _ _ _ _ h => Exit.noConfusion h.1 | exact fun _ _ _ _ h => h
      apply Exists.intro
      apply And.intro
      · apply yr_run; rfl; intro w' hw'; go_simp; (try with_reducible rfl)
      simp only [Act.put, List.setIfInBounds_toArray, List.set_cons_zero, List.set_cons_succ]
      apply wpR_next 8 (some 50)
      · simp only [List.getElem?_toArray, List.getElem?_cons_succ, List.getElem?_cons_zero]; exact rfl
      · rfl
      · kernel_rfl
      · kernel_rfl
      · kernel_rfl
      · first | exact fun _ _ _ _ h => Exit.noConfusion h.1 | exact fun _ _ _ _ h => h
      apply Exists.intro
      apply And.intro
      · apply yr_run; rfl; intro w' hw'; go_simp; (try with_reducible rfl)
      simp only [Act.put, List.setIfInBounds_toArray, List.set_cons_zero, List.set_cons_succ]
      apply wpR_next 9 (some 51)
      · simp only [List.getElem?_toArray, List.getElem?_cons_succ, List.getElem?_cons_zero]; exact rfl
      · rfl
      · kernel_rfl
      · kernel_rfl
      · kernel_rfl
      · first | exact fun _ _ _ _ h => Exit.noConfusion h.1 | exact fun _ _ _ _ h => h
      apply Exists.intro
      apply And.intro
      · apply yr_run; rfl; intro w' hw'; go_simp; (try with_reducible rfl)
      simp only [Act.put, List.setIfInBounds_toArray, List.set_cons_zero, List.set_cons_succ]
      refine wpR_one 10 (by kernel_rfl) ?_
      apply at_run 10 (some 52)
      · simp only [List.getElem?_toArray, List.getElem?_cons_succ, List.getElem?_cons_zero]; exact rfl
      · rfl
      · rfl
      intro w' hw'
      have RX_0_2 := Lib.hid (Ow.up RX10.out (hw'))
      have RY_0_2 := Lib.hid (Ow.up RY10.out (hw'))
      have E_0_2 := Lib.hid (Ext.trans EX10.out (hw'))
      refine ⟨.slice (some ⟨w'.heap.size, 0, none⟩) 1 1, w'.alloc (.cells (#[.int .u8 ((y2 : Nat) : Int)]) 5), exec_buildSlice 22 5 1 #[(0, .tmp 51)] (by rfl) Try.underlying22 _ (by kernel_rfl), Kept.of_below (below1 _ _), ?_⟩
      have NE_X_S_0_1 : RowKit.Hid (some w'.heap.size ≠ _) := Lib.hid (Ow.ne_ RX_0_2.out (Nat.le_refl _))
      have NE_Y_S_0_1 : RowKit.Hid (some w'.heap.size ≠ _) := Lib.hid (Ow.ne_ RY_0_2.out (Nat.le_refl _))
      have RX_0_3 := Lib.hid (Ow.up RX_0_2.out (below1 w' (.cells (#[.int .u8 ((y2 : Nat) : Int)]) 5)))
      have RY_0_3 := Lib.hid (Ow.up RY_0_2.out (below1 w' (.cells (#[.int .u8 ((y2 : Nat) : Int)]) 5)))
      have E_0_3 := Lib.hid (Ext.trans E_0_2.out (below1 w' (.cells (#[.int .u8 ((y2 : Nat) : Int)]) 5)))
      have US_n0_1 : RowKit.Hid (RdS (w'.alloc (.cells (#[.int .u8 ((y2 : Nat) : Int)]) 5)) (w'.alloc (.cells (#[.int .u8 ((y2 : Nat) : Int)]) 5)).heap.size 1 (some ⟨w'.heap.size, 0, none⟩) 1 1 (rowsV f8 [y2])) := Lib.hid (RdS.of_whole (Whole.new_ _ _ _) rfl)
      have hkk : Kept (From_ B0) wF.drew (w'.alloc (.cells (#[.int .u8 ((y2 : Nat) : Int)]) 5)) := (Kept.of_ext hw').trans (Kept.of_below (below1 _ _))
      obtain ⟨v0_4, gv0_4⟩ : ∃ x, w'.alloc (.cells (#[.int .u8 ((y2 : Nat) : Int)]) 5) = x := ⟨_, rfl⟩
      rw [gv0_4] at RX_0_3 RY_0_3 US_n0_1 E_0_3 hkk ⊢
      have ldt0_5 := fun w'' (h : Kept (From_ B0) v0_4 w'') => lA10 w'' (hkk.trans h)
      have ldt0_6 := fun w'' (h : Kept (From_ B0) v0_4 w'') => lT10 w'' (hkk.trans h)
      clear lA10 lT10
      clear gv0_4 hkk
      obtain ⟨g0_1, gg0_1⟩ : ∃ x, w'.heap.size = x := ⟨_, rfl⟩
      rw [gg0_1] at US_n0_1 NE_X_S_0_1 NE_Y_S_0_1 ⊢
      clear gg0_1 hw'
      have NF_NE_X_S_0_1 : RowKit.Hid (∀ a, (some (⟨g0_1, 0, none⟩ : Addr)) = some a → 0 < 1 → some a.block ≠ _) := Lib.hid (fun a ha _ => by obtain rfl := Option.some.inj ha; exact NE_X_S_0_1.out)
      have NF_NE_Y_S_0_1 : RowKit.Hid (∀ a, (some (⟨g0_1, 0, none⟩ : Addr)) = some a → 0 < 1 → some a.block ≠ _) := Lib.hid (fun a ha _ => by obtain rfl := Option.some.inj ha; exact NE_Y_S_0_1.out)
      try simp only [Act.put, List.setIfInBounds_toArray, List.set_cons_zero, List.set_cons_succ]
      refine wpR_one 11 (by kernel_rfl) ?_
      apply at_run 11 (some 53)
      · simp only [List.getElem?_toArray, List.getElem?_cons_succ, List.getElem?_cons_zero]; exact rfl
      · rfl
      · rfl
      intro w' hw'
      have RX_0_8 := Lib.hid (Ow.up RX_0_3.out (hw'))
      have RY_0_8 := Lib.hid (Ow.up RY_0_3.out (hw'))
      have US_0_8 := Lib.hid (RdS.bl US_n0_1.out (hw'))
      have E_0_8 := Lib.hid (Ext.trans E_0_3.out (hw'))
      obtain ⟨vv, w'', hrun, ho, hb, hg, hbk⟩ := Ow.app2 (P := Try.prog) 22 22 5 i0 _ 1 1 _ Try.underlying22 hi hz0 hz1 hz2 rfl (by decide) _ _ _ RY_0_8.out _ _ _ _ _ (US_0_8.out) (f8_all [y2]) (by unfold maxLen; omega) (by omega)
      refine ⟨vv, w'', exec_append (by rfl) (by rfl) (by rfl) hrun, Kept.of_from hb, ?_⟩
      have US_0_7 := Lib.hid (RdS.grown US_0_8.out hg NF_NE_Y_S_0_1.out)
      have NE_Y_S_0_7 : RowKit.Hid (∀ a, (some (⟨g0_1, 0, none⟩ : Addr)) = some a → 0 < 1 → some a.block ≠ _) := Lib.hid (fun a ha hn => Ow.ne2 (NF_NE_Y_S_0_1.out a ha hn) (US_0_8.out.low a ha hn) hbk)
      have RX_0_7 := Lib.hid (Ow.beside RX_0_8.out hg NF_X_Y_0_7.out (fun kk e => (RY_0_8.out.own.lt kk e).1))
      have NE_Y_X_0_7 := Lib.hid (Ow.ne3 RX_0_8.out NF_X_Y_0_7.out hbk)
      have NF_Y_X_0_7 := Lib.hid (Ne.symm NE_Y_X_0_7.out)
      have E_0_7 : RowKit.Hid (Ext W5 w'') := Lib.hid ho.below
      have hkk : Kept (From_ B0) v0_4 w'' := (Kept.of_ext hw').trans (Kept.of_from hb)
      obtain ⟨AA0_7, cc0_7, rfl, hrr⟩ := ho.rds
      have RY_0_7 := Lib.hid ho
      clear hrr
      obtain ⟨z0_7, gz0_7⟩ : ∃ x, w'' = x := ⟨_, rfl⟩
      rw [gz0_7] at RX_0_7 RY_0_7 US_0_7 E_0_7 hkk ⊢
      have ldt0_9 := fun w'' (h : Kept (From_ B0) z0_7 w'') => ldt0_5 w'' (hkk.trans h)
      have ldt0_10 := fun w'' (h : Kept (From_ B0) z0_7 w'') => ldt0_6 w'' (hkk.trans h)
      clear ldt0_5 ldt0_6
      clear hkk hrun ho hb hg hbk gz0_7 hw'
      try simp only [Act.put, List.setIfInBounds_toArray, List.set_cons_zero, List.set_cons_succ]
      apply wpR_next 12 (some 10)
      · simp only [List.getElem?_toArray, List.getElem?_cons_succ, List.getElem?_cons_zero]; exact rfl
      · rfl
      · kernel_rfl
      · kernel_rfl
      · kernel_rfl
      · first | exact fun _ _ _ _ h => Exit.noConfusion h.1 | exact fun _ _ _ _ h => h
      apply Exists.intro
      apply And.intro
      · apply yr_run; rfl; intro w' hw'; go_simp; (try with_reducible rfl)
      simp only [Act.put, List.setIfInBounds_toArray, List.set_cons_zero, List.set_cons_succ]
      refine wpR_done (by kernel_rfl) ?_ _
      intro wE hwE
      clear hxx
      have RX11 := Lib.hid (Ow.up RX_0_7.out hwE)
      have RY11 := Lib.hid (Ow.up RY_0_7.out hwE)
      have EX11 : RowKit.Hid (Ext W5 wE) := Lib.hid (Ext.trans E_0_7.out hwE)
      have ct := EX11.out.cell CT.out
      have HI : RowKit.Hid (FsIn W5 La Lb M (k + 1) _ _ wE) := Lib.hid ⟨by have := RX11.out; rw [← rowsV_app, ← ZA.out] at this; rw [HB0.out]; exact this, by have := RY11.out; rw [← rowsV_app, ← ZB.out] at this; rw [HB0.out]; exact this, NF_Y_X_0_7.out⟩
      clear hwE
      have hkq : q + 1 ≤ 301 := by have := LEN.out; omega
      by_cases ht0 : t = 0
      · subst ht0
        have HQ : RowKit.Hid (q = cnt (M.take (k + 1))) := Lib.hid (by rw [CN.out, if_pos rfl]; exact hq.out)
        go_wp2
        go_roundw
        case rel => exact ⟨k + 1, q, by omega, by omega, by go_num, rfl, HQ, HI⟩
        case measure => simp [intOf]; omega
      · have q1 : ((t : Int) == 0) = false := beq_eq_false_iff_ne.2 (by omega)
        have q2 : ((t : Int) != 0) = true := bne_iff_ne.2 (by omega)
        have HQ : RowKit.Hid (q + 1 = cnt (M.take (k + 1))) := Lib.hid (by rw [CN.out, if_neg ht0, hq.out])
        clear ht0
        go_wp2
        go_roundw
        case rel => exact ⟨k + 1, q + 1, by omega, by omega, by go_num, by go_num, HQ, HI⟩
        case measure => simp [intOf]; omega
    · obtain rfl : k = m := by omega
      have hMM := HMM.out
      have hLL := HLl.out
      have hRA : RdS wr wr.heap.size 1 A1 k c1 (rowsV f8 (La.take k)) := by have h := (RA5.out.bl EX.out).take_ k hMM.1; rwa [← rowsV_take f8 f8_len] at h
      have hRB : RdS wr wr.heap.size 1 A2 k c2 (rowsV f8 (Lb.take k)) := by have h := (RB5.out.bl EX.out).take_ k hMM.2.1; rwa [← rowsV_take f8 f8_len] at h
      have kc1 : k ≤ c1 := by have := RA.out.le; omega
      have kc2 : k ≤ c2 := by have := RB.out.le; omega
      have m1 : ∀ b ∈ La.take k, b < 256 := fun b h => HB1.out b (List.mem_of_mem_take h)
      have m2 : ∀ b ∈ Lb.take k, b < 256 := fun b h => HB2.out b (List.mem_of_mem_take h)
      have m3 : ∀ b ∈ M.take k, b < 256 := fun b h => HB3.out b (List.mem_of_mem_take h)
      have hS1 := sum_any A1 k c1 (La.take k) wr hRA m1 (by unfold maxLen; omega)
      have hS2 := sum_any AX k cX _ wr HRX.out (zip_lt m1 m3) (by unfold maxLen; omega)
      have hS3 := sum_any A2 k c2 (Lb.take k) wr hRB m2 (by unfold maxLen; omega)
      have hS4 := sum_any AY k cY _ wr HRY.out (zip_lt m2 m3) (by unfold maxLen; omega)
      have l1 := crc_lt m1
      have l2 := crc_lt (zip_lt m1 m3)
      have l3 := crc_lt m2
      have l4 := crc_lt (zip_lt m2 m3)
      have t1 := crc_turned (La.take k) (M.take k) (by simp; omega)
      have t2 := crc_turned (Lb.take k) (M.take k) (by simp; omega)
      have x1 := u32_xor_nat _ _ l1 l2
      have x2 := u32_xor_nat _ _ l3 l4
      rw [t1] at x1
      rw [t2] at x2
      have z0 : q = 0 → crcL 0 (M.take k) = 0 := fun h => (crc_calm (by rw [← hq.out]; exact h) (by omega)).2 rfl
      have z1 : q = 1 → crcL 0 (M.take k) ≠ 0 := fun h => crc_one (by rw [← hq.out]; exact h) m3
      generalize crc (La.take k) = S1 at hS1 x1
      generalize crc (List.zipWith (· ^^^ ·) (La.take k) (M.take k)) = S2 at hS2 x1
      generalize crc (Lb.take k) = S3 at hS3 x2
      generalize crc (List.zipWith (· ^^^ ·) (Lb.take k) (M.take k)) = S4 at hS4 x2
      generalize crcL 0 (M.take k) = Z at x1 x2 z0 z1
      have HS1 := Lib.hid hS1
      have HS2 := Lib.hid hS2
      have HS3 := Lib.hid hS3
      have HS4 := Lib.hid hS4
      have KC1 := Lib.hid kc1
      have KC2 := Lib.hid kc2
      clear hMM hLL hRA hRB kc1 kc2 m1 m2 m3 hS1 hS2 hS3 hS4 l1 l2 l3 l4 t1 t2 hin hlt
      have hcs : (q = 0 ∧ Z = 0) ∨ (q = 1 ∧ Z ≠ 0) ∨ 2 ≤ q := by
        rcases Nat.lt_or_ge q 2 with h | h
        · rcases Nat.lt_or_ge q 1 with h' | h'
          · exact .inl ⟨by omega, z0 (by omega)⟩
          · exact .inr (.inl ⟨by omega, z1 (by omega)⟩)
        · exact .inr (.inr h)
      clear z0 z1
      rcases hcs with ⟨h0, hz⟩ | ⟨h0, hz⟩ | h0
      · subst h0
        subst hz
        go_upto_region 13 with fail
        refine wp_region_lit ?_
        refine wl_read (v := ?_) (some 61) rfl (by rfl) ?_ ?_
        rotate_left
        · go_simp; (try with_reducible rfl)
        simp only [Act.put, List.setIfInBounds_toArray, List.set_cons_zero, List.set_cons_succ]
        refine wl_read (v := ?_) (some 62) rfl (by rfl) ?_ ?_
        rotate_left
        · go_simp; (try with_reducible rfl)
        simp only [Act.put, List.setIfInBounds_toArray, List.set_cons_zero, List.set_cons_succ]
        refine wl_read (v := .slice A1 k c1) (some 63) rfl (by rfl) (exec_slice_high 22 5 (.tmp 61) (.tmp 62) rfl Try.underlying22 (s := 1) (by kernel_rfl) (by rfl) (by rfl) KC1.out) ?_
        simp only [Act.put, List.setIfInBounds_toArray, List.set_cons_zero, List.set_cons_succ]
        go_wp2_with fail
        refine HS1.out.mono ?_
        rintro e w' ⟨rfl, rfl⟩
        go_wp2_with fail
        refine HS2.out.mono ?_
        rintro e w' ⟨rfl, rfl⟩
        go_upto_region 14 with fail
        refine wp_region_lit ?_
        refine wl_read (v := ?_) (some 68) rfl (by rfl) ?_ ?_
        rotate_left
        · go_simp; (try with_reducible rfl)
        simp only [Act.put, List.setIfInBounds_toArray, List.set_cons_zero, List.set_cons_succ]
        refine wl_read (v := ?_) (some 69) rfl (by rfl) ?_ ?_
        rotate_left
        · go_simp; (try with_reducible rfl)
        simp only [Act.put, List.setIfInBounds_toArray, List.set_cons_zero, List.set_cons_succ]
        refine wl_read (v := .slice A2 k c2) (some 70) rfl (by rfl) (exec_slice_high 22 5 (.tmp 68) (.tmp 69) rfl Try.underlying22 (s := 1) (by kernel_rfl) (by rfl) (by rfl) KC2.out) ?_
        simp only [Act.put, List.setIfInBounds_toArray, List.set_cons_zero, List.set_cons_succ]
        go_wp2_with fail
        refine HS3.out.mono ?_
        rintro e w' ⟨rfl, rfl⟩
        go_wp2_with fail
        refine HS4.out.mono ?_
        rintro e w' ⟨rfl, rfl⟩
        go_wp2
        go_ret
        exact ⟨rfl, Bel.out.trans (EX.out.mono Bel.out.size)⟩
      · subst h0
        have y1 : ((Z : Int) == 0) = false := beq_eq_false_iff_ne.2 (by omega)
        have y2 : ((Z : Int) != 0) = true := bne_iff_ne.2 (by omega)
        clear hz
        go_upto_region 13 with fail
        refine wp_region_lit ?_
        refine wl_read (v := ?_) (some 61) rfl (by rfl) ?_ ?_
        rotate_left
        · go_simp; (try with_reducible rfl)
        simp only [Act.put, List.setIfInBounds_toArray, List.set_cons_zero, List.set_cons_succ]
        refine wl_read (v := ?_) (some 62) rfl (by rfl) ?_ ?_
        rotate_left
        · go_simp; (try with_reducible rfl)
        simp only [Act.put, List.setIfInBounds_toArray, List.set_cons_zero, List.set_cons_succ]
        refine wl_read (v := .slice A1 k c1) (some 63) rfl (by rfl) (exec_slice_high 22 5 (.tmp 61) (.tmp 62) rfl Try.underlying22 (s := 1) (by kernel_rfl) (by rfl) (by rfl) KC1.out) ?_
        simp only [Act.put, List.setIfInBounds_toArray, List.set_cons_zero, List.set_cons_succ]
        go_wp2_with fail
        refine HS1.out.mono ?_
        rintro e w' ⟨rfl, rfl⟩
        go_wp2_with fail
        refine HS2.out.mono ?_
        rintro e w' ⟨rfl, rfl⟩
        go_upto_region 14 with fail
        refine wp_region_lit ?_
        refine wl_read (v := ?_) (some 68) rfl (by rfl) ?_ ?_
        rotate_left
        · go_simp; (try with_reducible rfl)
        simp only [Act.put, List.setIfInBounds_toArray, List.set_cons_zero, List.set_cons_succ]
        refine wl_read (v := ?_) (some 69) rfl (by rfl) ?_ ?_
        rotate_left
        · go_simp; (try with_reducible rfl)
        simp only [Act.put, List.setIfInBounds_toArray, List.set_cons_zero, List.set_cons_succ]
        refine wl_read (v := .slice A2 k c2) (some 70) rfl (by rfl) (exec_slice_high 22 5 (.tmp 68) (.tmp 69) rfl Try.underlying22 (s := 1) (by kernel_rfl) (by rfl) (by rfl) KC2.out) ?_
        simp only [Act.put, List.setIfInBounds_toArray, List.set_cons_zero, List.set_cons_succ]
        go_wp2_with fail
        refine HS3.out.mono ?_
        rintro e w' ⟨rfl, rfl⟩
        go_wp2_with fail
        refine HS4.out.mono ?_
        rintro e w' ⟨rfl, rfl⟩
        go_wp2
        go_ret
        exact ⟨rfl, Bel.out.trans (EX.out.mono Bel.out.size)⟩
      · have y1 : ((q : Int) == 1) = false := beq_eq_false_iff_ne.2 (by omega)
        have y2 : ((q : Int) != 1) = true := bne_iff_ne.2 (by omega)
        have y3 : (q == 1) = false := beq_eq_false_iff_ne.2 (by omega)
        have y4 : decide (0 < q) = true := decide_eq_true (by omega)
        have y5 : decide ((0 : Int) < (q : Int)) = true := decide_eq_true (by omega)
        go_upto_region 13 with fail
        refine wp_region_lit ?_
        refine wl_read (v := ?_) (some 61) rfl (by rfl) ?_ ?_
        rotate_left
        · go_simp; (try with_reducible rfl)
        simp only [Act.put, List.setIfInBounds_toArray, List.set_cons_zero, List.set_cons_succ]
        refine wl_read (v := ?_) (some 62) rfl (by rfl) ?_ ?_
        rotate_left
        · go_simp; (try with_reducible rfl)
        simp only [Act.put, List.setIfInBounds_toArray, List.set_cons_zero, List.set_cons_succ]
        refine wl_read (v := .slice A1 k c1) (some 63) rfl (by rfl) (exec_slice_high 22 5 (.tmp 61) (.tmp 62) rfl Try.underlying22 (s := 1) (by kernel_rfl) (by rfl) (by rfl) KC1.out) ?_
        simp only [Act.put, List.setIfInBounds_toArray, List.set_cons_zero, List.set_cons_succ]
        go_wp2_with fail
        refine HS1.out.mono ?_
        rintro e w' ⟨rfl, rfl⟩
        go_wp2_with fail
        refine HS2.out.mono ?_
        rintro e w' ⟨rfl, rfl⟩
        go_upto_region 14 with fail
        refine wp_region_lit ?_
        refine wl_read (v := ?_) (some 68) rfl (by rfl) ?_ ?_
        rotate_left
        · go_simp; (try with_reducible rfl)
        simp only [Act.put, List.setIfInBounds_toArray, List.set_cons_zero, List.set_cons_succ]
        refine wl_read (v := ?_) (some 69) rfl (by rfl) ?_ ?_
        rotate_left
        · go_simp; (try with_reducible rfl)
        simp only [Act.put, List.setIfInBounds_toArray, List.set_cons_zero, List.set_cons_succ]
        refine wl_read (v := .slice A2 k c2) (some 70) rfl (by rfl) (exec_slice_high 22 5 (.tmp 68) (.tmp 69) rfl Try.underlying22 (s := 1) (by kernel_rfl) (by rfl) (by rfl) KC2.out) ?_
        simp only [Act.put, List.setIfInBounds_toArray, List.set_cons_zero, List.set_cons_succ]
        go_wp2_with fail
        refine HS3.out.mono ?_
        rintro e w' ⟨rfl, rfl⟩
        go_wp2_with fail
        refine HS4.out.mono ?_
        rintro e w' ⟨rfl, rfl⟩
        go_wp2
        go_ret
        exact ⟨rfl, Bel.out.trans (EX.out.mono Bel.out.size)⟩
end Go.Proofs.Ytgmjehejaailpaa
