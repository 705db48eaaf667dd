/- Take of any number; the laws' head. -/
import Derived.Test.YthfngmlnmpbcpaaRv4
namespace Go.Proofs.Ythfngmlnmpbcpaa
open Go.RowKit Go.Maps
set_option linter.unusedSimpArgs false
set_option linter.unusedVariables false

set_option maxRecDepth 100000 in
theorem short17 (A : Option Addr) (n c : Nat) (L : List Nat) (w : World) (h : RdS w w.heap.size 1 A n c (rowsV f8 L)) (hn : n ≤ maxLen) :
    Calls Try.prog 29 #[.slice A n c] w fun e w' => e = .returned (.slice A (L.take 60).length c) ∧ w = w' := by
  have hl := h.rlen f8_len (by decide)
  have hle := h.le
  unfold maxLen at hn
  by_cases h6 : 60 < n
  · have hm : (L.take 60).length = 60 := by rw [List.length_take]; omega
    rw [hm]
    have q : decide ((60 : Int) < (n : Int)) = true := decide_eq_true (by omega)
    clear hm hl h
    go_enter Try.func29, Try.ntmps29
    go_wp2
    go_ret
    exact ⟨rfl, rfl⟩
  · have hm : (L.take 60).length = n := by rw [List.length_take]; omega
    rw [hm]
    have q : decide ((60 : Int) < (n : Int)) = false := decide_eq_false (by omega)
    clear hm hl h
    go_enter Try.func29, Try.ntmps29
    go_wp2
    go_ret
    exact ⟨rfl, rfl⟩
theorem short17_b (A : Option Addr) (n c : Nat) (L : List Nat) (w : World) (h : RdS w w.heap.size 1 A n c (rowsV f8 L)) (hn : n ≤ maxLen) :
    Calls Try.prog 29 #[.slice A n c] w fun e w' => e = .returned (.slice A (L.take 60).length c) ∧ Below w.heap.size w w' :=
  (short17 A n c L w h hn).mono fun e w' ⟨h1, h2⟩ => ⟨h1, h2 ▸ Below.refl _ _⟩

/-- What Take answers, and what it leaves: refused; or taken. -/
def TookRel (win got : Nat) (HL : List HE) (x : Int) (L : List Nat) (hs : Nat) (err : Int) (T : List HE) (got' : Nat) (HL' : List HE) : Prop :=
  (err = 22 ∧ T = [] ∧ got' = got ∧ HL' = HL ∧ ((∃ y ∈ HL, (y.1 : Int) = x) ∨ x ≤ (got : Int) ∨ (got : Int) + (win : Int) < x)) ∨
  (err = 0 ∧ ∃ (s : Nat) (sl : Sl), x = (s : Int) ∧ got < s ∧ s ≤ got + win ∧ (∀ y ∈ HL, y.1 ≠ s) ∧ (∀ b, b < hs → Off sl b) ∧ drain got (insH (s, sl, L) HL) = (got', T, HL'))
structure TookIn (B : Nat) (w : World) (g win got bm n : Nat) (HL : List HE) (x : Int) (L : List Nat) (w' : World) (err : Int) (T : List HE) (A : Option Addr) (c got' n' : Nat) (D' : DataW Value) (HL' : List HE) : Prop where
  rv : RvIn B w' g win got' bm n' D' HL'
  nle : n' ≤ n + 1
  row : RdS w' w'.heap.size 1 A T.length c (rowsV slc (T.map (·.2.1)))
  told : ∀ y ∈ T, Lies w' y.2.1 y.2.2 ∧ Off y.2.1 g ∧ Off y.2.1 bm
  new_ : ∀ a, A = some a → w.heap.size ≤ a.block
  kept : Kept (fun b => b = g ∨ b = bm) w w'
  rel : TookRel win got HL x L w.heap.size err T got' HL'
theorem take_any {B : Nat} {g win got bm n : Nat} {D : DataW Value} {HL : List HE} (w : World) (h : RvIn B w g win got bm n D HL) (hg : got ≤ 100000) (hwin : win ≤ 64) (hB : B ≤ w.heap.size) (hnn : n ≤ 100000) (x : Int) (hx : (Lit.int .i64 x).wf = true) (A1 : Option Addr) (c1 : Nat) (L : List Nat) (hr : RdS w w.heap.size 1 A1 L.length c1 (rowsV f8 L)) (h256 : ∀ b ∈ L, b < 256) (h60 : L.length ≤ 60) :
    Calls Try.prog 28 #[.pointer (some ⟨g, 0, none⟩), .int .i64 x, .slice A1 L.length c1] w fun e w' => ∃ err T A c got' n' D' HL', e = .returned (.tuple #[.slice A T.length c, .int .i64 err]) ∧ TookIn B w g win got bm n HL x L w' err T A c got' n' D' HL' := by
  have ref : ((∃ y ∈ HL, (y.1 : Int) = x) ∨ x ≤ (got : Int) ∨ (got : Int) + (win : Int) < x) → ∀ {e : Ending} {w' : World}, e = .returned (.tuple #[.slice none 0 0, .int .i64 22]) ∧ Below w.heap.size w w' → ∃ err T A c got' n' D' HL', e = .returned (.tuple #[.slice A T.length c, .int .i64 err]) ∧ TookIn B w g win got bm n HL x L w' err T A c got' n' D' HL' := fun hc e w' ⟨h1, h2⟩ =>
    ⟨22, ([] : List HE), none, 0, got, n, D, HL, h1, h.below h2, Nat.le_succ _, rds_nil _ _ _, fun y hy => (by cases hy), fun a ha => (by cases ha), Kept.of_below h2, .inl ⟨rfl, rfl, rfl, rfl, hc⟩⟩
  by_cases hh : ∃ y ∈ HL, (y.1 : Int) = x
  · obtain ⟨y, hy, hyx⟩ := hh
    exact (take_held w h hg hwin A1 L.length c1 x hx y hy hyx).mono fun e w' h1 => ref (.inl ⟨y, hy, hyx⟩) h1
  · have hn : ∀ e ∈ HL, (e.1 : Int) ≠ x := fun e he hex => hh ⟨e, he, hex⟩
    rcases Int.lt_or_le (got : Int) x with h1 | h1
    · rcases Int.lt_or_le ((got : Int) + (win : Int)) x with h2 | h2
      · exact (take_hi w h hg hwin A1 L.length c1 x hx hn h1 h2).mono fun e w' h3 => ref (.inr (.inr h2)) h3
      · obtain ⟨s, rfl⟩ : ∃ s : Nat, x = (s : Int) := ⟨x.toNat, by omega⟩
        refine (take_yes w h hg hwin hB hnn s (by omega) (by omega) (fun e he e' => hn e he (by omega)) A1 c1 L hr h256 h60).mono ?_
        rintro e w' ⟨sl, D', A, c, h3, h4, h5, h6, h7, h8, h9⟩
        exact ⟨0, _, A, c, _, n + 1, D', _, h3, h5, Nat.le_refl _, h6, h7, h8, h9, .inr ⟨rfl, s, sl, rfl, by omega, by omega, fun e he e' => hn e he (by omega), h4, rfl⟩⟩
    · exact (take_lo w h hg hwin A1 L.length c1 x hx hn h1).mono fun e w' h3 => ref (.inr (.inl h1)) h3
/-- What follows of it. -/
theorem TookRel.len {win got hs got' : Nat} {HL T HL' : List HE} {x err : Int} {L : List Nat} (h : TookRel win got HL x L hs err T got' HL') : got' = got + T.length ∧ T.length + HL'.length ≤ HL.length + 1 := by
  rcases h with ⟨_, rfl, rfl, rfl, _⟩ | ⟨_, s, sl, _, _, _, _, _, hd⟩
  · exact ⟨rfl, by show 0 + _ ≤ _; omega⟩
  · have h1 := drain_got (l := insH (s, sl, L) HL) (got := got)
    have h2 := congrArg List.length (drain_split (l := insH (s, sl, L) HL) (got := got))
    have h3 : ∀ (l : List HE) (x : HE), (insH x l).length = l.length + 1 := fun l => by
      induction l with
      | nil => intro x; rfl
      | cons e r ih => intro x; unfold insH; split <;> simp [ih]
    rw [hd] at h1 h2
    dsimp only at h1 h2
    rw [h3, List.length_append] at h2
    exact ⟨h1, by omega⟩
theorem TookRel.told {win got hs got' : Nat} {HL T HL' : List HE} {x err : Int} {L : List Nat} (h : TookRel win got HL x L hs err T got' HL') {i : Nat} {y : HE} (hi : T[i]? = some y) : y.1 = got + 1 + i := by
  rcases h with ⟨_, rfl, _⟩ | ⟨_, s, sl, _, _, _, _, _, hd⟩
  · simp at hi
  · exact drain_told (l := insH (s, sl, L) HL) (got := got) (by rw [hd]; exact hi)
/-- Whatever holds of what is held, and of what came, holds of what is told and what is left. -/
theorem TookRel.all {P : HE → Prop} {win got hs got' : Nat} {HL T HL' : List HE} {x err : Int} {L : List Nat} (h : TookRel win got HL x L hs err T got' HL') (h0 : ∀ y ∈ HL, P y) (hx : ∀ s : Nat, x = (s : Int) → got < s → s ≤ got + win → ∀ sl, (∀ b, b < hs → Off sl b) → P (s, sl, L)) : (∀ y ∈ T, P y) ∧ ∀ y ∈ HL', P y := by
  rcases h with ⟨_, rfl, rfl, rfl, _⟩ | ⟨_, s, sl, h1, h2, h3, _, h4, hd⟩
  · exact ⟨fun y hy => (by cases hy), h0⟩
  · have hm : ∀ y, y ∈ T ∨ y ∈ HL' → P y := fun y hy => by
      have h5 := mem_drain (x := y) (l := insH (s, sl, L) HL) (got := got) (by rw [hd]; exact hy)
      rcases mem_insH.1 h5 with rfl | h5
      · exact hx s h1 h2 h3 sl h4
      · exact h0 y h5
    exact ⟨fun y hy => hm y (.inl hy), fun y hy => hm y (.inr hy)⟩
/-- What is left is never the next one. -/
theorem TookRel.left {win got hs got' : Nat} {HL T HL' : List HE} {x err : Int} {L : List Nat} (h : TookRel win got HL x L hs err T got' HL') (hr : HL.Pairwise (fun p q => p.1 < q.1)) (h0 : ∀ y ∈ HL, got + 1 < y.1) : ∀ y ∈ HL', got' + 1 < y.1 := by
  rcases h with ⟨_, rfl, rfl, rfl, _⟩ | ⟨_, s, sl, h1, h2, h3, h5, h4, hd⟩
  · exact h0
  · have h6 := drain_left (l := insH (s, sl, L) HL) (got := got) (rise_insH hr h5) (fun e he => by
      rcases mem_insH.1 he with rfl | he
      · exact h2
      · have := h0 e he; omega)
    rw [hd] at h6
    exact h6
set_option maxRecDepth 100000 in
set_option maxHeartbeats 1000000 in
theorem shown17 (w : World) : Calls Try.prog 24 #[] w fun e w' => e = .returned (.bool true) ∧ Below w.heap.size w w' := by
  go_enter Try.func24, Try.ntmps24
  go_wp2_with fail
  refine (rv_new 4 w).mono ?_
  rintro e w1 ⟨g, win, bm, rfl, hwin, hS, hb⟩
  obtain rfl : win = 4 := by
    have : min (max (4 : Int) 1) 64 = 4 := by decide
    omega
  have HS1 := Lib.hid hS
  have HB1 := Lib.hid hb
  clear hwin hS hb
  have hcv := Lib.run_convert_bytes_const (P := Try.prog) w1 32 5 #[.int .u8 98] 1 1 Try.underlying32 Try.underlying5
  have hR : RdS (w1.alloc (.cells #[.int .u8 98] 5 (1, 2))) (w1.alloc (.cells #[.int .u8 98] 5 (1, 2))).heap.size 1 (some ⟨w1.heap.size, 0, none⟩) 1 1 (rowsV f8 [98]) := RdS.of_marked w1 (1, 2) rfl
  have HP := Lib.hid (take_yes _ (HS1.out.below (below1 w1 (.cells #[.int .u8 98] 5 (1, 2)))) (by omega) (by omega) (Nat.le_trans HB1.out.size (by simp)) (by omega) 2 (by omega) (by omega) (fun e he => (by cases he)) (some ⟨w1.heap.size, 0, none⟩) 1 [98] hR (by decide) (by decide))
  clear hR
  go_wp2_with fail
  refine HP.out.mono ?_
  rintro e w2 ⟨sl, D2, A2, c2, he, -, hS, -, -, -, hk⟩
  have d2 : drain 0 (insH (2, sl, [98]) []) = (0, [], [(2, sl, [98])]) := rfl
  rw [d2] at he hS
  subst he
  have HS2 := Lib.hid hS
  have HB2 : RowKit.Hid (Below w.heap.size w w2) := Lib.hid ((bel_al HB1.out (.cells #[.int .u8 98] 5 (1, 2))).trans ((HS1.out.below (below1 w1 (.cells #[.int .u8 98] 5 (1, 2)))).far hk (Nat.le_trans HB1.out.size (by simp))))
  clear d2 hS hk HP HS1 HB1 hcv
  have hcv := Lib.run_convert_bytes_const (P := Try.prog) w2 32 5 #[.int .u8 98] 1 1 Try.underlying32 Try.underlying5
  have HP := Lib.hid (take_held _ (HS2.out.below (below1 w2 (.cells #[.int .u8 98] 5 (1, 2)))) (by omega) (by omega) (some ⟨w2.heap.size, 0, none⟩) 1 1 2 (by decide) (2, sl, [98]) (by simp) rfl)
  go_wp2_with fail
  refine HP.out.mono ?_
  rintro e w3 ⟨rfl, hb⟩
  have HS3 := Lib.hid ((HS2.out.below (below1 w2 (.cells #[.int .u8 98] 5 (1, 2)))).below hb)
  have HB3 : RowKit.Hid (Below w.heap.size w w3) := Lib.hid (bel_bl (bel_al HB2.out (.cells #[.int .u8 98] 5 (1, 2))) hb)
  clear hb HP HS2 HB2 hcv
  have hcv := Lib.run_convert_bytes_const (P := Try.prog) w3 32 5 #[.int .u8 97] 1 1 Try.underlying32 Try.underlying5
  have hR : RdS (w3.alloc (.cells #[.int .u8 97] 5 (1, 2))) (w3.alloc (.cells #[.int .u8 97] 5 (1, 2))).heap.size 1 (some ⟨w3.heap.size, 0, none⟩) 1 1 (rowsV f8 [97]) := RdS.of_marked w3 (1, 2) rfl
  have HP := Lib.hid (take_yes _ (HS3.out.below (below1 w3 (.cells #[.int .u8 97] 5 (1, 2)))) (by omega) (by omega) (Nat.le_trans HB3.out.size (by simp)) (by omega) 1 (by omega) (by omega) (by simp) (some ⟨w3.heap.size, 0, none⟩) 1 [97] hR (by decide) (by decide))
  clear hR
  go_wp2_with fail
  refine HP.out.mono ?_
  rintro e w4 ⟨sl1, D4, A4, c4, he, -, hS, hrw, htd, -, hk⟩
  have d2 : drain 0 (insH (1, sl1, [97]) [(2, sl, [98])]) = (2, [(1, sl1, [97]), (2, sl, [98])], []) := rfl
  rw [d2] at he hS hrw htd
  subst he
  have HS4 := Lib.hid hS
  have HB4 : RowKit.Hid (Below w.heap.size w w4) := Lib.hid ((bel_al HB3.out (.cells #[.int .u8 97] 5 (1, 2))).trans ((HS3.out.below (below1 w3 (.cells #[.int .u8 97] 5 (1, 2)))).far hk (Nat.le_trans HB3.out.size (by simp))))
  obtain ⟨bb, off, rfl, -, hpl⟩ := hrw.place slc_len (by decide) (Nat.succ_pos _)
  have hp0 := hpl 0 _ rfl 0 _ rfl
  have hp1 := hpl 1 _ rfl 0 _ rfl
  rw [Addr.add_lit] at hp0 hp1
  simp only [Nat.add_zero, Nat.mul_one, Nat.zero_mul] at hp0 hp1
  have l1 := (htd _ (List.mem_cons_self)).1
  have l2 := (htd _ (List.mem_cons_of_mem _ (List.mem_cons_self))).1
  have e1 := l1.len
  have e2 := l2.len
  obtain ⟨s1, s2, s3⟩ := sl1
  obtain ⟨q1, q2, q3⟩ := sl
  obtain rfl : s2 = 1 := e1
  obtain rfl : q2 = 1 := e2
  have cv1 : (convert 32 9 (.slice s1 1 s3)).run Try.prog w4 = .ok (.string ⟨#[97]⟩) w4 := conv_txt l1.row
  have cv2 : (convert 32 9 (.slice q1 1 q3)).run Try.prog w4 = .ok (.string ⟨#[98]⟩) w4 := conv_txt l2.row
  have HGt := Lib.hid (rv_got w4 hS)
  clear d2 hS hk HP HS3 HB3 hcv hrw htd hpl l1 l2
  go_wp2_with fail
  refine HGt.out.mono ?_
  rintro e w5 ⟨rfl, hb⟩
  have HB5 : RowKit.Hid (Below w.heap.size w w5) := Lib.hid (bel_bl HB4.out hb)
  clear hb hp0 hp1 cv1 cv2
  go_wp2
  go_ret
  exact ⟨rfl, HB5.out⟩
end Go.Proofs.Ythfngmlnmpbcpaa
