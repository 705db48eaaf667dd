/- The law ReceiverPlays. -/
import Derived.Test.YthfngmlnmpbcpaaRw2
import Derived.Test.YthfngmlnmpbcpaaRv10
import Derived.Test.YthfngmlnmpbcpaaRv8
namespace Go.Proofs.Ythfngmlnmpbcpaa
open Go.RowKit Go.Maps
set_option linter.unusedSimpArgs false
set_option linter.unusedVariables false

/-- A block that is none of the document's receiver's. -/
structure RqFar (gr : Nat) (A : Option Addr) (QL : List HE) (b : Nat) : Prop where
  g_ : b ≠ gr
  row : ∀ a, A = some a → 0 < QL.length → a.block ≠ b
  each : ∀ e ∈ QL, Off e.2.1 b
theorem QrIn.fresh {w : World} {g win got c : Nat} {QL : List HE} {A : Option Addr} (h : QrIn w g win got QL A c) {b : Nat} (hb : w.heap.size ≤ b) : RqFar g A QL b :=
  ⟨by have := h.box.lt; omega, fun a ha hn e => by have := h.row.low a ha hn; omega, fun e he => (h.each e he).1.fresh hb⟩
/-- What the document's Take does with any number. -/
structure QookIn (w : World) (g win got : Nat) (QL : List HE) (A : Option Addr) (x : Int) (L : List Nat) (w' : World) (err : Int) (T : List HE) (Ao : Option Addr) (co got' : Nat) (QL' : List HE) (A' : Option Addr) (c' : Nat) : Prop where
  q : QrIn w' g win got' QL' A' c'
  row : RdS w' w'.heap.size 1 Ao T.length co (rowsV slc (T.map (·.2.1)))
  told : ∀ y ∈ T, Lies w' y.2.1 y.2.2
  new_ : A' = A ∨ ∀ a, A' = some a → w.heap.size ≤ a.block
  kept : Kept (fun b => b = g) w w'
  rel : TookRel win got QL x L w.heap.size err T got' QL'
theorem RqFar.took {win got hs got' g b : Nat} {QL T QL' : List HE} {A A' : Option Addr} {x err : Int} {L : List Nat} (h : RqFar g A QL b) (hb : b < hs) (r : TookRel win got QL x L hs err T got' QL') (hn : (A' = A ∧ QL' = QL) ∨ ∀ a, A' = some a → hs ≤ a.block) : RqFar g A' QL' b := by
  have h1 := r.all (P := fun y => Off y.2.1 b) h.each (fun s _ _ _ sl hs => hs b hb)
  refine ⟨h.g_, fun a ha hl => ?_, h1.2⟩
  rcases hn with ⟨e1, e2⟩ | hn
  · subst e1 e2; exact h.row a ha hl
  · have := hn a ha; omega
theorem take2_any {g win got c : Nat} {QL : List HE} {A : Option Addr} (w : World) (h : QrIn w g win got QL A c) (hg : got ≤ 100000) (hwin : win ≤ 64) (hQ : QL.length ≤ 100) (x : Int) (hx1 : -2000000 ≤ x) (hx2 : x ≤ 9223372036854775807) (A1 : Option Addr) (c1 : Nat) (L : List Nat) (hr : RdS w w.heap.size 1 A1 L.length c1 (rowsV f8 L)) (h256 : ∀ b ∈ L, b < 256) (h60 : L.length ≤ 60) :
    Calls Try.prog 30 #[.pointer (some ⟨g, 0, none⟩), .int .i64 x, .slice A1 L.length c1] w fun e w' => ∃ err T Ao co got' QL' A' c', e = .returned (.tuple #[.slice Ao T.length co, .int .i64 err]) ∧ ((A' = A ∧ QL' = QL) ∨ ∀ a, A' = some a → w.heap.size ≤ a.block) ∧ QookIn w g win got QL A x L w' err T Ao co got' QL' A' c' := by
  have ref : ((∃ y ∈ QL, (y.1 : Int) = x) ∨ x ≤ (got : Int) ∨ (got : Int) + (win : Int) < x) → ∀ {e : Ending} {w' : World}, e = .returned (.tuple #[.slice none 0 0, .int .i64 22]) ∧ Below w.heap.size w w' → ∃ err T Ao co got' QL' A' c', e = .returned (.tuple #[.slice Ao T.length co, .int .i64 err]) ∧ ((A' = A ∧ QL' = QL) ∨ ∀ a, A' = some a → w.heap.size ≤ a.block) ∧ QookIn w g win got QL A x L w' err T Ao co got' QL' A' c' := fun hc e w' ⟨h1, h2⟩ =>
    ⟨22, ([] : List HE), none, 0, got, QL, A, c, h1, .inl ⟨rfl, rfl⟩, h.below h2, rds_nil _ _ _, fun y hy => (by cases hy), .inl rfl, Kept.of_below h2, .inl ⟨rfl, rfl, rfl, rfl, hc⟩⟩
  rcases Int.lt_or_le (got : Int) x with h1 | h1
  · rcases Int.lt_or_le ((got : Int) + (win : Int)) x with h2 | h2
    · exact (take2_hi w h hg hwin A1 L.length c1 x hx1 hx2 h1 h2).mono fun e w' h3 => ref (.inr (.inr h2)) h3
    · obtain ⟨s, rfl⟩ : ∃ s : Nat, x = (s : Int) := ⟨x.toNat, by omega⟩
      refine (take2_in w h hg hwin hQ s (by omega) (by omega) A1 c1 L hr h256 h60).mono ?_
      rintro e w' (⟨⟨y, hy, hys⟩, h3⟩ | ⟨hn, sl, A', c', Ao, co, h3, h4, h5, h6, h7, h8, h9⟩)
      · exact ref (.inl ⟨y, hy, by omega⟩) h3
      · exact ⟨0, _, Ao, co, _, _, A', c', h3, .inr h7, h4, h5, h6, .inr h7, h9, .inr ⟨rfl, s, sl, rfl, by omega, by omega, hn, h8, rfl⟩⟩
  · exact (take2_lo w h hg hwin A1 L.length c1 x hx1 hx2 h1).mono fun e w' h3 => ref (.inr (.inl h1)) h3
/-- The code's receiver beside the document's. -/
structure QpIn (w wr : World) (g bm gr win got n : Nat) (D : DataW Value) (HL QL : List HE) (A : Option Addr) (c : Nat) : Prop where
  rv : RvIn w.heap.size wr g win got bm n D HL
  q : QrIn wr gr win got QL A c
  fa : RvFar g bm HL gr
  fq : ∀ b, (b = g ∨ b = bm) → RqFar gr A QL b
  below : Below w.heap.size w wr
  glo : w.heap.size ≤ gr
theorem QpIn.down {w wr W : World} {g bm gr win got n c : Nat} {D : DataW Value} {HL QL : List HE} {A : Option Addr} (h : QpIn w wr g bm gr win got n D HL QL A c) (hb : Below wr.heap.size wr W) : QpIn w W g bm gr win got n D HL QL A c :=
  ⟨h.rv.below hb, h.q.below hb, h.fa, h.fq, bel_bl h.below hb, h.glo⟩
/-- The code took: the document's stands. -/
theorem QpIn.tookA {w wr w5 : World} {g bm gr win got n got' n' c cT : Nat} {D D' : DataW Value} {HL QL HL' T : List HE} {A AT : Option Addr} {x err : Int} {L : List Nat} (h : QpIn w wr g bm gr win got n D HL QL A c) (hT : TookIn w.heap.size wr g win got bm n HL x L w5 err T AT cT got' n' D' HL') :
    RvIn w.heap.size w5 g win got' bm n' D' HL' ∧ QrIn w5 gr win got QL A c ∧ RvFar g bm HL' gr ∧ (∀ y ∈ T, Off y.2.1 gr) ∧ Below w.heap.size w w5 := by
  have h1 := h.fa.took h.q.box.lt hT.rel
  exact ⟨hT.rv, h.q.keep hT.kept (fun e => (h.fq gr e).g_ rfl) (fun a ha hn e => (h.fq _ e).row a ha hn rfl) (fun e he b hb => (h.fq b hb).each e he), h1.1, h1.2, h.below.trans (h.rv.far hT.kept h.below.size)⟩
/-- Both took. -/
theorem QpIn.tookB {w wr w5 w6 w7 : World} {g bm gr win got n got' n' got2 c cT cA co : Nat} {D D' : DataW Value} {HL QL HL' T T2 QL2 : List HE} {A AT A2 Ao : Option Addr} {x err err2 : Int} {L : List Nat} (h : QpIn w wr g bm gr win got n D HL QL A c) (ha : abs17 HL = abs17 QL)
    (hT : TookIn w.heap.size wr g win got bm n HL x L w5 err T AT cT got' n' D' HL') (hx : Ext w5 w6) (hn : (A2 = A ∧ QL2 = QL) ∨ ∀ a, A2 = some a → w6.heap.size ≤ a.block) (hQ : QookIn w6 gr win got QL A x L w7 err2 T2 Ao co got2 QL2 A2 cA) :
    err = err2 ∧ abs17 T = abs17 T2 ∧ got2 = got' ∧ abs17 HL' = abs17 QL2 ∧ QpIn w w7 g bm gr win got' n' D' HL' QL2 A2 cA := by
  obtain ⟨e1, e2, e3, e4⟩ := hT.rel.same hQ.rel ha
  obtain ⟨a1, a2, a3, a4, a5⟩ := h.tookA hT
  subst e3
  have hlt : ∀ b, (b = g ∨ b = bm) → b < w6.heap.size := fun b hb => by
    have q1 := a1.box.lt
    have q2 := a1.map.lt
    have q3 := hx.size
    rcases hb with hb | hb <;> omega
  refine ⟨e1, e2, rfl, e4, (a1.below hx).keep hQ.kept (fun b hb => by have h9 : b = gr := hb; rw [h9]; exact a3), hQ.q, a3, fun b hb => (h.fq b hb).took (hlt b hb) hQ.rel hn, ?_, h.glo⟩
  have b1 := bel_bl a5 hx
  exact b1.trans (hQ.kept.below b1.size (fun i hi e' => by have h9 : i = gr := e'; have := h.glo; omega))
/-- A clone in the code's place. -/
theorem QpIn.clone {w wr w4 w5 : World} {g bm gr win got n g2 bm2 n2 c cT got' n' : Nat} {D D2 D' : DataW Value} {HL QL HL2 HL' T : List HE} {A AT : Option Addr} {x err : Int} {L : List Nat} (h : QpIn w wr g bm gr win got n D HL QL A c) (hg : wr.heap.size ≤ g2) (hb2 : wr.heap.size ≤ bm2) (hR : RvIn wr.heap.size w4 g2 win got bm2 n2 D2 HL2) (ho : ∀ e ∈ HL2, ∀ b, b < wr.heap.size → Off e.2.1 b) (hb : Below wr.heap.size wr w4) {w4' : World} (hx : Ext w4 w4')
    (hT : TookIn w.heap.size w4' g win got bm n HL x L w5 err T AT cT got' n' D' HL') : QpIn w w5 g2 bm2 gr win got n2 D2 HL2 QL A c := by
  have h4 := (h.down hb).down hx
  obtain ⟨a1, a2, a3, a4, a5⟩ := h4.tookA hT
  have q1 := h.rv.box.lt
  have q2 := h.rv.map.lt
  have q3 := h.q.box.lt
  refine ⟨((hR.lower h.below.size).below hx).keep hT.kept (fun b hb' => ?_), a2, ⟨by omega, by omega, fun e he => ho e he gr q3⟩, fun b hb' => ?_, a5, h.glo⟩
  · have hbl : b < wr.heap.size := by rcases hb' with hb' | hb' <;> omega
    exact ⟨by omega, by omega, fun e he => ho e he b hbl⟩
  · rcases hb' with hb' | hb'
    · rw [hb']; exact h.q.fresh hg
    · rw [hb']; exact h.q.fresh hb2
/-- A round's beginning. -/
def PyIn (w : World) (gr win k g : Nat) (wr : World) : Prop := ∃ (bm got n : Nat) (D : DataW Value) (HL QL : List HE) (A : Option Addr) (c : Nat), QpIn w wr g bm gr win got n D HL QL A c ∧ abs17 HL = abs17 QL ∧ got ≤ 65 * k ∧ n ≤ k
/-- A law's call: its number; where its bytes are. -/
abbrev Op17 := Int × (Option Addr × Nat × Nat × List Nat)
def op17Cells (a : Op17) : List Value := [.int .i64 a.1, .slice a.2.1 a.2.2.1 a.2.2.2.1]
theorem op17_len (a : Op17) : (op17Cells a).length = 2 := rfl
set_option maxRecDepth 100000 in
set_option maxHeartbeats 8000000 in
theorem law_rplays (x : Int) (A : Option Addr) (n c : Nat) (Es : List Op17) (w : World) (h : RdS w w.heap.size 2 A n c (rowsV op17Cells Es)) (he : ∀ e ∈ Es, (-9223372036854775808 ≤ e.1 ∧ e.1 ≤ 9223372036854775807) ∧ ArOk17 w e.2) (hn : n ≤ maxLen) :
    Calls Try.prog 4 #[.int .i64 x, .slice A n c] w fun e w' => e = .returned (.bool true) ∧ Below w.heap.size w w' := by
  have hl := h.rlen op17_len (by decide)
  unfold maxLen at hn
  have HR := Lib.hid h
  have HEs := Lib.hid he
  have Hl := Lib.hid hl
  obtain ⟨i1, hi1, hz01, hz11, hz21⟩ := info_parts_ info_u8
  clear h he hl
  go_enter Try.func4, Try.ntmps4
  go_wp2_with fail
  refine (shown17 _).mono ?_
  rintro e w1 ⟨rfl, hb1⟩
  have HB1 := Lib.hid hb1
  clear hb1
  go_wp2_with fail
  refine (rv_new x w1).mono ?_
  rintro e w2 ⟨g, win, bm, rfl, hwin, hS, hb2⟩
  have HS := Lib.hid hS
  have HB2 := Lib.hid hb2
  have hw1 : 1 ≤ win := by omega
  have hw2 : win ≤ 64 := by omega
  have HWin := Lib.hid hwin
  clear hS hb2 hwin
  go_wp2_with fail
  refine (rw_new x w2).mono ?_
  rintro e w3 ⟨gr, win', rfl, hwin', hgr, hR, hb3⟩
  obtain rfl : win' = win := by have := HWin.out; omega
  have HP0 : RowKit.Hid (PyIn w gr win' 0 g w3) := Lib.hid (by
    have h1 := HS.out.lower HB1.out.size
    have q1 := HS.out.box.lt
    have q2 := HS.out.map.lt
    refine ⟨bm, 0, 0, _, [], [], none, 0, ⟨h1.below hb3, hR, h1.fresh hgr, fun b hb => ⟨by rcases hb with hb | hb <;> omega, fun a ha => (by cases ha), fun e he => (by cases he)⟩, bel_bl (bel_bl HB1.out HB2.out) hb3, Nat.le_trans (bel_bl HB1.out HB2.out).size hgr⟩, rfl, Nat.le_refl _, Nat.le_refl _⟩)
  obtain ⟨win, gwin⟩ : ∃ z, win' = z := ⟨_, rfl⟩
  rw [gwin] at HP0 hw1 hw2
  clear HS HB1 HB2 hgr hR hb3 hwin' HWin gwin
  go_wp2
  go_loopw [6, 8] (fun ss si wr => ∃ k g : Nat, k ≤ 100 ∧ si = .int .i64 k ∧ ss = .pointer (some ⟨g, 0, none⟩) ∧ RowKit.Hid (PyIn w gr win k g wr)) (fun _ si _ => 100 - (intOf si).toNat)
  case atStart => exact ⟨0, g, by omega, rfl, rfl, HP0⟩
  case round =>
    clear HP0
    obtain ⟨k, g1, hk, rfl, rfl, HP⟩ := hrel
    by_cases hlt : k < n ∧ k < 100
    · obtain ⟨hkn, hk100⟩ := hlt
      have t1 : decide (k < n) = true := decide_eq_true hkn
      have t2 : decide ((k : Int) < 100) = true := decide_eq_true (by omega)
      obtain ⟨⟨sq, a, m, c0, L0⟩, hx⟩ : ∃ x, Es[k]? = some x := ⟨_, List.getElem?_eq_getElem (by have := Hl.out; omega)⟩
      obtain ⟨⟨hsq1, hsq2⟩, hm, hr0, h256⟩ := HEs.out _ (List.mem_of_getElem? hx)
      obtain ⟨bb, off, hA, hbB, hpl⟩ := HR.out.place op17_len (by decide) (by omega)
      have hp0 := hpl k _ hx 0 _ rfl
      have hp1 := hpl k _ hx 1 _ rfl
      rw [Addr.add_lit] at hp0 hp1
      simp only [Nat.add_zero] at hp0
      subst hA
      have HQ0 := Lib.hid hp0
      have HQ1 := Lib.hid hp1
      have Hr0 := Lib.hid hr0
      have HbB := Lib.hid hbB
      have hs := fun W hr => short17_b a m c0 L0 W hr (Nat.le_trans hr0.le hm)
      have hrt := hr0.fewer8 60
      have hb6 : ∀ b ∈ L0.take 60, b < 256 := fun b hb => h256 b (List.mem_of_mem_take hb)
      have h60 : (L0.take 60).length ≤ 60 := by rw [List.length_take]; omega
      obtain ⟨L, gL⟩ : ∃ y, L0.take 60 = y := ⟨_, rfl⟩
      rw [gL] at hs hrt hb6 h60
      have HSh := Lib.hid hs
      have HRt := Lib.hid hrt
      have Hb6 := Lib.hid hb6
      dsimp only at hsq1 hsq2
      clear hx hm hr0 h256 hpl hp0 hp1 hs hrt hb6 gL hbB
      obtain ⟨r, gr9⟩ : ∃ r, k % 9 = r := ⟨_, rfl⟩
      have r1 : (k : Int) % 9 = (r : Int) := by omega
      have r2 : (k : Int).tmod 9 = (r : Int) := by rw [Int.tmod_eq_emod_of_nonneg (by omega)]; exact r1
      have r3 : IntKind.i64.wrap (r : Int) = (r : Int) := IntWalk.i64_in _ (by have := Nat.mod_lt k (show 0 < 9 by omega); omega)
      clear gr9
      go_upto_if 39 with fail
      go_cut [6] (fun ss z => ∃ g2 : Nat, ss = .pointer (some ⟨g2, 0, none⟩) ∧ RowKit.Hid (PyIn w gr win k g2 z))
      case first =>
        by_cases h8 : r = 8
        · have e0 : ((r : Int) == 8) = true := by rw [h8]; rfl
          clear h8
          obtain ⟨bm1, got, nm, D1, HL, QL, A1, c1, hP, hab, hgk, hnk⟩ := HP.out
          have HC := Lib.hid (rv_clone wr hP.rv hP.below.size (by omega))
          have HPq := Lib.hid hP
          clear hP HP
          go_wp2_with fail
          refine HC.out.mono ?_
          rintro e w4 ⟨g2, bm2, n2, D2, HL2, rfl, hg2, hbm2, hR2, hab2, hof2, hn2, hb4⟩
          have HR2 := Lib.hid hR2
          have Hof := Lib.hid hof2
          have Hb4 := Lib.hid hb4
          have Hg2 := Lib.hid (And.intro hg2 hbm2)
          have Hab2 := Lib.hid (hab2.trans hab)
          have lda := (HPq.out.q.below hb4).box.cell (i := 1) rfl
          have hwa : IntKind.i64.wrap ((got : Int) + 1) = (got : Int) + 1 := IntWalk.i64_in _ (by omega)
          have hcv := Lib.run_convert_bytes_const (P := Try.prog) w4 32 5 #[.int .u8 111, .int .u8 116, .int .u8 104, .int .u8 101, .int .u8 114] 5 5 Try.underlying32 Try.underlying5
          have hR5 : RdS (w4.alloc (.cells #[.int .u8 111, .int .u8 116, .int .u8 104, .int .u8 101, .int .u8 114] 5 (5, 6))) (w4.alloc (.cells #[.int .u8 111, .int .u8 116, .int .u8 104, .int .u8 101, .int .u8 114] 5 (5, 6))).heap.size 1 (some ⟨w4.heap.size, 0, none⟩) 5 5 (rowsV f8 [111, 116, 104, 101, 114]) := RdS.of_marked w4 (5, 6) rfl
          have h4 := (HPq.out.down hb4).down (below1 w4 (.cells #[.int .u8 111, .int .u8 116, .int .u8 104, .int .u8 101, .int .u8 114] 5 (5, 6)))
          have HTk := Lib.hid (take_any (w4.alloc (.cells #[.int .u8 111, .int .u8 116, .int .u8 104, .int .u8 101, .int .u8 114] 5 (5, 6))) h4.rv (by omega) (by omega) h4.below.size (by omega) ((got : Int) + 1) (wf_i64 (by omega) (by omega)) (some ⟨w4.heap.size, 0, none⟩) 5 [111, 116, 104, 101, 114] hR5 (by decide) (by decide))
          clear hg2 hbm2 hR2 hab2 hof2 hb4 HC hR5 h4
          go_wp2_with fail
          refine HTk.out.mono ?_
          rintro e w5 ⟨err, T, A5, c5, got', n', D', HL', rfl, hT⟩
          have HN := Lib.hid (QpIn.clone HPq.out Hg2.out.1 Hg2.out.2 HR2.out Hof.out Hb4.out (below1 w4 (.cells #[.int .u8 111, .int .u8 116, .int .u8 104, .int .u8 101, .int .u8 114] 5 (5, 6))) hT)
          clear hT HTk lda hcv
          go_wp2_with fail
          go_meet
          exact ⟨g2, rfl, Lib.hid ⟨bm2, got, n2, D2, HL2, QL, A1, c1, HN.out, Hab2.out, hgk, by omega⟩⟩
        · have e0 : ((r : Int) == 8) = false := beq_eq_false_iff_ne.2 (by omega)
          clear h8
          go_wp2_with fail
          go_meet
          exact ⟨g1, rfl, HP⟩
      case rest =>
        obtain ⟨g2, rfl, HP2⟩ := hcut
        clear r1 r2 r3 HP
        obtain ⟨bm2, got, nm, D2, HL, QL, A2, c2, hP, hab, hgk, hnk⟩ := HP2.out
        have lk := hP.below.cell (p := ⟨bb, off + k * 2, none⟩) HbB.out
        rw [HQ0.out] at lk
        have HPq := Lib.hid hP
        have hcn := hP.rv.count
        have hcq : QL.length ≤ 64 := by have := abs17_len hab; omega
        clear hP HP2
        by_cases hsm : sq < -1000000
        · have d0 : decide (sq < -1000000) = true := decide_eq_true hsm
          go_wp2
          go_roundw
          case rel => exact ⟨k + 1, g2, by omega, by go_num, rfl, Lib.hid ⟨bm2, got, nm, D2, HL, QL, A2, c2, HPq.out, hab, by omega, by omega⟩⟩
          case measure => simp [intOf]; omega
        · have d0 : decide (sq < -1000000) = false := decide_eq_false hsm
          have hxq : (Lit.int .i64 sq).wf = true := wf_i64 hsq1 hsq2
          go_upto_region 16 with fail
          clear lk
          have HBd := Lib.hid (bel_dr HPq.out.below)
          have HPd := Lib.hid (HPq.out.down ((Below.refl _ _).drew))
          have ldn : ∀ w', Kept (From_ w.heap.size) wc.drew w' → w'.cell? ⟨bb, off + k * 2, none⟩ = some (.int .i64 sq) := fun w' hk => hk.from_cell HbB.out ((HBd.out.cell (p := ⟨bb, off + k * 2, none⟩) HbB.out).trans HQ0.out)
          have ldb : ∀ w', Kept (From_ w.heap.size) wc.drew w' → w'.cell? ⟨bb, off + k * 2 + 1, none⟩ = some (.slice a m c0) := fun w' hk => hk.from_cell HbB.out ((HBd.out.cell (p := ⟨bb, off + k * 2 + 1, none⟩) HbB.out).trans HQ1.out)
          have KF : ∀ {u v : World}, w.heap.size ≤ u.heap.size → Kept (From_ w.heap.size) u v → Below w.heap.size u v := fun hs h => h.below hs (fun i hi e => by unfold From_ at e; omega)
          have HQs : RowKit.Hid (∀ w', Kept (From_ w.heap.size) wc.drew w' → Calls Try.prog 29 #[.slice a m c0] w' fun e w'' => e = .returned (.slice a L.length c0) ∧ Below w'.heap.size w' w'') := Lib.hid (fun w' hk => HSh.out w' (Hr0.out.up (HBd.out.trans (KF HBd.out.size hk)) (Nat.le_trans HBd.out.size hk.size)))
          have HX0 : RowKit.Hid (Ext wc.drew wc.drew) := Lib.hid (Ext.refl _)
          refine wp_region_reg (From_ w.heap.size) (by kernel_rfl) ?_
          apply wpR_next 0 (some 61)
          · simp only [List.getElem?_toArray, List.getElem?_cons_succ, List.getElem?_cons_zero]; exact rfl
          · rfl
          · kernel_rfl
          · kernel_rfl
          · kernel_rfl
          · exact fun _ _ _ _ h => h
          apply Exists.intro
          apply And.intro
          · apply yr_run; rfl; intro w' hw'; go_simp; (try with_reducible rfl)
          simp only [Act.put, List.setIfInBounds_toArray, List.set_cons_zero, List.set_cons_succ]
          apply wpR_next 1 (some 62)
          · simp only [List.getElem?_toArray, List.getElem?_cons_succ, List.getElem?_cons_zero]; exact rfl
          · rfl
          · kernel_rfl
          · kernel_rfl
          · kernel_rfl
          · exact fun _ _ _ _ h => h
          apply Exists.intro
          apply And.intro
          · apply yr_run; rfl; intro w' hw'; go_simp; (try with_reducible rfl)
          simp only [Act.put, List.setIfInBounds_toArray, List.set_cons_zero, List.set_cons_succ]
          apply wpR_next 2 (some 63)
          · simp only [List.getElem?_toArray, List.getElem?_cons_succ, List.getElem?_cons_zero]; exact rfl
          · rfl
          · kernel_rfl
          · kernel_rfl
          · kernel_rfl
          · exact fun _ _ _ _ h => h
          apply Exists.intro
          apply And.intro
          · apply yr_run; rfl; intro w' hw'; go_simp; (try with_reducible rfl)
          simp only [Act.put, List.setIfInBounds_toArray, List.set_cons_zero, List.set_cons_succ]
          apply wpR_next 3 (some 64)
          · simp only [List.getElem?_toArray, List.getElem?_cons_succ, List.getElem?_cons_zero]; exact rfl
          · rfl
          · kernel_rfl
          · kernel_rfl
          · kernel_rfl
          · exact fun _ _ _ _ h => h
          apply Exists.intro
          apply And.intro
          · apply yr_run; rfl; intro w' hw'; go_simp; (try with_reducible rfl)
          simp only [Act.put, List.setIfInBounds_toArray, List.set_cons_zero, List.set_cons_succ]
          apply wpR_next 4 (some 65)
          · simp only [List.getElem?_toArray, List.getElem?_cons_succ, List.getElem?_cons_zero]; exact rfl
          · rfl
          · kernel_rfl
          · kernel_rfl
          · kernel_rfl
          · exact fun _ _ _ _ h => h
          apply Exists.intro
          apply And.intro
          · apply yr_run; rfl; intro w' hw'; go_simp; (try with_reducible rfl)
          simp only [Act.put, List.setIfInBounds_toArray, List.set_cons_zero, List.set_cons_succ]
          apply wpR_next 5 (some 66)
          · simp only [List.getElem?_toArray, List.getElem?_cons_succ, List.getElem?_cons_zero]; exact rfl
          · rfl
          · kernel_rfl
          · kernel_rfl
          · kernel_rfl
          · exact fun _ _ _ _ h => h
          apply Exists.intro
          apply And.intro
          · apply yr_run; rfl; intro w' hw'; go_simp; (try with_reducible rfl)
          simp only [Act.put, List.setIfInBounds_toArray, List.set_cons_zero, List.set_cons_succ]
          apply wpR_next 7 (some 68)
          · simp only [List.getElem?_toArray, List.getElem?_cons_succ, List.getElem?_cons_zero]; exact rfl
          · rfl
          · kernel_rfl
          · kernel_rfl
          · kernel_rfl
          · exact fun _ _ _ _ h => h
          apply Exists.intro
          apply And.intro
          · apply yr_run; rfl; intro w' hw'; go_simp; (try with_reducible rfl)
          simp only [Act.put, List.setIfInBounds_toArray, List.set_cons_zero, List.set_cons_succ]
          apply wpR_next 8 (some 69)
          · simp only [List.getElem?_toArray, List.getElem?_cons_succ, List.getElem?_cons_zero]; exact rfl
          · rfl
          · kernel_rfl
          · kernel_rfl
          · kernel_rfl
          · exact fun _ _ _ _ h => h
          apply Exists.intro
          apply And.intro
          · apply yr_run; rfl; intro w' hw'; go_simp; (try with_reducible rfl)
          simp only [Act.put, List.setIfInBounds_toArray, List.set_cons_zero, List.set_cons_succ]
          apply wpR_next 9 (some 70)
          · simp only [List.getElem?_toArray, List.getElem?_cons_succ, List.getElem?_cons_zero]; exact rfl
          · rfl
          · kernel_rfl
          · kernel_rfl
          · kernel_rfl
          · exact fun _ _ _ _ h => h
          apply Exists.intro
          apply And.intro
          · apply yr_run; rfl; intro w' hw'; go_simp; (try with_reducible rfl)
          simp only [Act.put, List.setIfInBounds_toArray, List.set_cons_zero, List.set_cons_succ]
          apply wpR_next 10 (some 71)
          · simp only [List.getElem?_toArray, List.getElem?_cons_succ, List.getElem?_cons_zero]; exact rfl
          · rfl
          · kernel_rfl
          · kernel_rfl
          · kernel_rfl
          · exact fun _ _ _ _ h => h
          apply Exists.intro
          apply And.intro
          · apply yr_run; rfl; intro w' hw'; go_simp; (try with_reducible rfl)
          simp only [Act.put, List.setIfInBounds_toArray, List.set_cons_zero, List.set_cons_succ]
          apply wpR_next 11 (some 72)
          · simp only [List.getElem?_toArray, List.getElem?_cons_succ, List.getElem?_cons_zero]; exact rfl
          · rfl
          · kernel_rfl
          · kernel_rfl
          · kernel_rfl
          · exact fun _ _ _ _ h => h
          apply Exists.intro
          apply And.intro
          · apply yr_run; rfl; intro w' hw'; go_simp; (try with_reducible rfl)
          simp only [Act.put, List.setIfInBounds_toArray, List.set_cons_zero, List.set_cons_succ]
          apply wpR_next 12 (some 73)
          · simp only [List.getElem?_toArray, List.getElem?_cons_succ, List.getElem?_cons_zero]; exact rfl
          · rfl
          · kernel_rfl
          · kernel_rfl
          · kernel_rfl
          · exact fun _ _ _ _ h => h
          apply Exists.intro
          apply And.intro
          · apply yr_call; rfl; rotate_left; intro w' hw'; exact HQs.out w' hw'; intro w'; go_simp
          simp only [Act.put, List.setIfInBounds_toArray, List.set_cons_zero, List.set_cons_succ]
          apply wpR_run 6 (some 67)
          · simp only [List.getElem?_toArray, List.getElem?_cons_succ, List.getElem?_cons_zero]; exact rfl
          · rfl
          · kernel_rfl
          · rfl
          intro w' hw'
          refine ⟨.slice (some ⟨w'.heap.size, 0, none⟩) 0 0, w'.alloc (.cells #[] 5), ?_, Kept.of_below (below1 _ _), ?_⟩
          · go_simp
          have HOw : RowKit.Hid (Ow w' w'.heap.size 5 1 (.slice (some ⟨w'.heap.size, 0, none⟩) 0 0) 0 [] (w'.alloc (.cells #[] 5))) := Lib.hid (Ow.new_ (cs := #[]) (Below.refl _ _) (Nat.le_refl _) (Nat.le_refl _) (Nat.zero_le _) rfl)
          have HX6 : RowKit.Hid (Ext wc.drew w') := Lib.hid hw'
          have ldn6 : ∀ v, Kept (From_ w.heap.size) (w'.alloc (.cells #[] 5)) v → v.cell? ⟨bb, off + k * 2, none⟩ = some (.int .i64 sq) := fun v hv => ldn v ((Kept.of_ext (Ext.trans hw' (below1 _ _))).trans hv)
          obtain ⟨w6a, gw6a⟩ : ∃ x, w'.alloc (.cells #[] 5) = x := ⟨_, rfl⟩
          obtain ⟨h6a, gh6a⟩ : ∃ x, w'.heap.size = x := ⟨_, rfl⟩
          obtain ⟨w6, gw6⟩ : ∃ x, w' = x := ⟨_, rfl⟩
          rw [gw6a, gh6a, gw6] at HOw
          rw [gw6] at HX6
          have Gh6 : RowKit.Hid (w6.heap.size = h6a) := Lib.hid (by rw [← gw6]; exact gh6a)
          rw [gw6a] at ldn6
          rw [gw6a, gh6a]
          clear hw' gw6a gh6a gw6
          simp only [Act.put, List.setIfInBounds_toArray, List.set_cons_zero, List.set_cons_succ]
          apply wpR_run 13 (some 74)
          · simp only [List.getElem?_toArray, List.getElem?_cons_succ, List.getElem?_cons_zero]; exact rfl
          · rfl
          · kernel_rfl
          · rfl
          intro w' hw'
          have HRn := (HRt.out.up (bel_bl HBd.out (Ext.trans HX6.out (HOw.out.below))) (bel_bl HBd.out (Ext.trans HX6.out (HOw.out.below))).size).bl hw'
          obtain ⟨vv, w'', hrun, ho, hb, hg, hbk⟩ := Ow.app2 (P := Try.prog) 32 32 5 i1 _ 1 1 _ Try.underlying32 hi1 hz01 hz11 hz21 rfl (by decide) _ _ _ (HOw.out.up hw') _ a L.length c0 _ HRn (f8_all _) (by unfold maxLen; omega) (by omega)
          rw [Nat.zero_add, List.nil_append] at ho
          obtain ⟨Ap, cp, rfl, hrp⟩ := ho.rds
          have hle6 : w.heap.size ≤ h6a := by rw [← Gh6.out]; exact Nat.le_trans HBd.out.size HX6.out.size
          refine ⟨_, w'', exec_append (by rfl) (by rfl) (by rfl) hrun, Kept.of_from (hb.mono hle6), ?_⟩
          have HRp := Lib.hid hrp
          have HX7 : RowKit.Hid (Ext wc.drew w'') := Lib.hid (Ext.trans HX6.out ho.below)
          clear hw' hrun ho hb hg hbk HRn hrp hle6 HOw HX6 Gh6
          simp only [Act.put, List.setIfInBounds_toArray, List.set_cons_zero, List.set_cons_succ]
          apply wpR_call 14 (some 75)
          · simp only [List.getElem?_toArray, List.getElem?_cons_succ, List.getElem?_cons_zero]; exact rfl
          · rfl
          · kernel_rfl
          · rfl
          · intro w'; go_simp; first | done | exact ⟨rfl, rfl⟩ | with_reducible rfl
          intro w' hw'
          have hP4 := HPd.out.down (Ext.trans HX7.out hw')
          refine (take_any w' hP4.rv (by omega) (by omega) hP4.below.size (by omega) sq hxq Ap cp L (HRp.out.bl hw') Hb6.out h60).mono ?_
          rintro e'' w5 ⟨err, T, A5, c5, got', n', D', HL', rfl, hT⟩
          refine ⟨_, rfl, hT.kept.wider (fun i _ e' => by rcases e' with e' | e'; rw [e']; exact hP4.rv.lo; rw [e']; exact hP4.rv.blo), ?_⟩
          have HPt := Lib.hid hP4
          clear hw' hP4 HX7 HRp ldn6
          simp only [Act.put, List.setIfInBounds_toArray, List.set_cons_zero, List.set_cons_succ]
          apply wpR_next 15 (some 60)
          · simp only [List.getElem?_toArray, List.getElem?_cons_succ, List.getElem?_cons_zero]; exact rfl
          · rfl
          · kernel_rfl
          · kernel_rfl
          · kernel_rfl
          · exact fun _ _ _ _ h => h
          apply Exists.intro
          apply And.intro
          · apply yr_run; rfl; intro w' hw'; go_simp; (try with_reducible rfl)
          simp only [Act.put, List.setIfInBounds_toArray, List.set_cons_zero, List.set_cons_succ]
          apply wpR_next 16 (some 76)
          · simp only [List.getElem?_toArray, List.getElem?_cons_succ, List.getElem?_cons_zero]; exact rfl
          · rfl
          · kernel_rfl
          · kernel_rfl
          · kernel_rfl
          · exact fun _ _ _ _ h => h
          apply Exists.intro
          apply And.intro
          · apply yr_run; rfl; intro w' hw'; go_simp; (try with_reducible rfl)
          simp only [Act.put, List.setIfInBounds_toArray, List.set_cons_zero, List.set_cons_succ]
          apply wpR_next 17 (some 77)
          · simp only [List.getElem?_toArray, List.getElem?_cons_succ, List.getElem?_cons_zero]; exact rfl
          · rfl
          · kernel_rfl
          · kernel_rfl
          · kernel_rfl
          · exact fun _ _ _ _ h => h
          apply Exists.intro
          apply And.intro
          · apply yr_run; rfl; intro w' hw'; go_simp; (try with_reducible rfl)
          simp only [Act.put, List.setIfInBounds_toArray, List.set_cons_zero, List.set_cons_succ]
          apply wpR_next 18 (some 10)
          · simp only [List.getElem?_toArray, List.getElem?_cons_succ, List.getElem?_cons_zero]; exact rfl
          · rfl
          · kernel_rfl
          · kernel_rfl
          · kernel_rfl
          · exact fun _ _ _ _ h => h
          apply Exists.intro
          apply And.intro
          · apply yr_run; rfl; intro w' hw'; go_simp; (try with_reducible rfl)
          simp only [Act.put, List.setIfInBounds_toArray, List.set_cons_zero, List.set_cons_succ]
          apply wpR_next 19 (some 11)
          · simp only [List.getElem?_toArray, List.getElem?_cons_succ, List.getElem?_cons_zero]; exact rfl
          · rfl
          · kernel_rfl
          · kernel_rfl
          · kernel_rfl
          · exact fun _ _ _ _ h => h
          apply Exists.intro
          apply And.intro
          · apply yr_run; rfl; intro w' hw'; go_simp; (try with_reducible rfl)
          simp only [Act.put, List.setIfInBounds_toArray, List.set_cons_zero, List.set_cons_succ]
          refine wpR_done (by kernel_rfl) ?_ _
          intro Wa hwa
          have HTa := Lib.hid hT
          clear hT
          go_upto_region 17 with fail
          have HXa : RowKit.Hid (Ext w5 Wa.drew) := Lib.hid (Ext.trans hwa ((Below.refl _ _).drew))
          obtain ⟨q1, q2, q3, q4, q5⟩ := HPt.out.tookA HTa.out
          have HBa : RowKit.Hid (Below w.heap.size w Wa.drew) := Lib.hid (bel_bl q5 HXa.out)
          have HQa := Lib.hid (q2.below HXa.out)
          have hoffT := Lib.hid q4
          have ldn : ∀ w', Kept (From_ w.heap.size) Wa.drew w' → w'.cell? ⟨bb, off + k * 2, none⟩ = some (.int .i64 sq) := fun w' hk => hk.from_cell HbB.out ((HBa.out.cell (p := ⟨bb, off + k * 2, none⟩) HbB.out).trans HQ0.out)
          have ldb : ∀ w', Kept (From_ w.heap.size) Wa.drew w' → w'.cell? ⟨bb, off + k * 2 + 1, none⟩ = some (.slice a m c0) := fun w' hk => hk.from_cell HbB.out ((HBa.out.cell (p := ⟨bb, off + k * 2 + 1, none⟩) HbB.out).trans HQ1.out)
          have HQs : RowKit.Hid (∀ w', Kept (From_ w.heap.size) Wa.drew w' → Calls Try.prog 29 #[.slice a m c0] w' fun e w'' => e = .returned (.slice a L.length c0) ∧ Below w'.heap.size w' w'') := Lib.hid (fun w' hk => HSh.out w' (Hr0.out.up (HBa.out.trans (KF HBa.out.size hk)) (Nat.le_trans HBa.out.size hk.size)))
          clear hwa q1 q2 q3 q4 q5
          refine wp_region_reg (From_ w.heap.size) (by kernel_rfl) ?_
          apply wpR_next 0 (some 79)
          · simp only [List.getElem?_toArray, List.getElem?_cons_succ, List.getElem?_cons_zero]; exact rfl
          · rfl
          · kernel_rfl
          · kernel_rfl
          · kernel_rfl
          · exact fun _ _ _ _ h => h
          apply Exists.intro
          apply And.intro
          · apply yr_run; rfl; intro w' hw'; go_simp; (try with_reducible rfl)
          simp only [Act.put, List.setIfInBounds_toArray, List.set_cons_zero, List.set_cons_succ]
          apply wpR_next 1 (some 80)
          · simp only [List.getElem?_toArray, List.getElem?_cons_succ, List.getElem?_cons_zero]; exact rfl
          · rfl
          · kernel_rfl
          · kernel_rfl
          · kernel_rfl
          · exact fun _ _ _ _ h => h
          apply Exists.intro
          apply And.intro
          · apply yr_run; rfl; intro w' hw'; go_simp; (try with_reducible rfl)
          simp only [Act.put, List.setIfInBounds_toArray, List.set_cons_zero, List.set_cons_succ]
          apply wpR_next 2 (some 81)
          · simp only [List.getElem?_toArray, List.getElem?_cons_succ, List.getElem?_cons_zero]; exact rfl
          · rfl
          · kernel_rfl
          · kernel_rfl
          · kernel_rfl
          · exact fun _ _ _ _ h => h
          apply Exists.intro
          apply And.intro
          · apply yr_run; rfl; intro w' hw'; go_simp; (try with_reducible rfl)
          simp only [Act.put, List.setIfInBounds_toArray, List.set_cons_zero, List.set_cons_succ]
          apply wpR_next 3 (some 82)
          · simp only [List.getElem?_toArray, List.getElem?_cons_succ, List.getElem?_cons_zero]; exact rfl
          · rfl
          · kernel_rfl
          · kernel_rfl
          · kernel_rfl
          · exact fun _ _ _ _ h => h
          apply Exists.intro
          apply And.intro
          · apply yr_run; rfl; intro w' hw'; go_simp; (try with_reducible rfl)
          simp only [Act.put, List.setIfInBounds_toArray, List.set_cons_zero, List.set_cons_succ]
          apply wpR_next 4 (some 83)
          · simp only [List.getElem?_toArray, List.getElem?_cons_succ, List.getElem?_cons_zero]; exact rfl
          · rfl
          · kernel_rfl
          · kernel_rfl
          · kernel_rfl
          · exact fun _ _ _ _ h => h
          apply Exists.intro
          apply And.intro
          · apply yr_run; rfl; intro w' hw'; go_simp; (try with_reducible rfl)
          simp only [Act.put, List.setIfInBounds_toArray, List.set_cons_zero, List.set_cons_succ]
          apply wpR_next 5 (some 84)
          · simp only [List.getElem?_toArray, List.getElem?_cons_succ, List.getElem?_cons_zero]; exact rfl
          · rfl
          · kernel_rfl
          · kernel_rfl
          · kernel_rfl
          · exact fun _ _ _ _ h => h
          apply Exists.intro
          apply And.intro
          · apply yr_run; rfl; intro w' hw'; go_simp; (try with_reducible rfl)
          simp only [Act.put, List.setIfInBounds_toArray, List.set_cons_zero, List.set_cons_succ]
          apply wpR_next 6 (some 85)
          · simp only [List.getElem?_toArray, List.getElem?_cons_succ, List.getElem?_cons_zero]; exact rfl
          · rfl
          · kernel_rfl
          · kernel_rfl
          · kernel_rfl
          · exact fun _ _ _ _ h => h
          apply Exists.intro
          apply And.intro
          · apply yr_run; rfl; intro w' hw'; go_simp; (try with_reducible rfl)
          simp only [Act.put, List.setIfInBounds_toArray, List.set_cons_zero, List.set_cons_succ]
          apply wpR_next 7 (some 86)
          · simp only [List.getElem?_toArray, List.getElem?_cons_succ, List.getElem?_cons_zero]; exact rfl
          · rfl
          · kernel_rfl
          · kernel_rfl
          · kernel_rfl
          · exact fun _ _ _ _ h => h
          apply Exists.intro
          apply And.intro
          · apply yr_run; rfl; intro w' hw'; go_simp; (try with_reducible rfl)
          simp only [Act.put, List.setIfInBounds_toArray, List.set_cons_zero, List.set_cons_succ]
          apply wpR_next 8 (some 87)
          · simp only [List.getElem?_toArray, List.getElem?_cons_succ, List.getElem?_cons_zero]; exact rfl
          · rfl
          · kernel_rfl
          · kernel_rfl
          · kernel_rfl
          · exact fun _ _ _ _ h => h
          apply Exists.intro
          apply And.intro
          · apply yr_run; rfl; intro w' hw'; go_simp; (try with_reducible rfl)
          simp only [Act.put, List.setIfInBounds_toArray, List.set_cons_zero, List.set_cons_succ]
          apply wpR_next 9 (some 88)
          · simp only [List.getElem?_toArray, List.getElem?_cons_succ, List.getElem?_cons_zero]; exact rfl
          · rfl
          · kernel_rfl
          · kernel_rfl
          · kernel_rfl
          · exact fun _ _ _ _ h => h
          apply Exists.intro
          apply And.intro
          · apply yr_run; rfl; intro w' hw'; go_simp; (try with_reducible rfl)
          simp only [Act.put, List.setIfInBounds_toArray, List.set_cons_zero, List.set_cons_succ]
          apply wpR_next 10 (some 89)
          · simp only [List.getElem?_toArray, List.getElem?_cons_succ, List.getElem?_cons_zero]; exact rfl
          · rfl
          · kernel_rfl
          · kernel_rfl
          · kernel_rfl
          · exact fun _ _ _ _ h => h
          apply Exists.intro
          apply And.intro
          · apply yr_run; rfl; intro w' hw'; go_simp; (try with_reducible rfl)
          simp only [Act.put, List.setIfInBounds_toArray, List.set_cons_zero, List.set_cons_succ]
          apply wpR_next 11 (some 90)
          · simp only [List.getElem?_toArray, List.getElem?_cons_succ, List.getElem?_cons_zero]; exact rfl
          · rfl
          · kernel_rfl
          · kernel_rfl
          · kernel_rfl
          · exact fun _ _ _ _ h => h
          apply Exists.intro
          apply And.intro
          · apply yr_call; rfl; rotate_left; intro w' hw'; exact HQs.out w' hw'; intro w'; go_simp
          simp only [Act.put, List.setIfInBounds_toArray, List.set_cons_zero, List.set_cons_succ]
          apply wpR_call 12 (some 91)
          · simp only [List.getElem?_toArray, List.getElem?_cons_succ, List.getElem?_cons_zero]; exact rfl
          · rfl
          · kernel_rfl
          · rfl
          · intro w'; go_simp; first | done | exact ⟨rfl, rfl⟩ | with_reducible rfl
          intro w' hw'
          refine (take2_any w' (HQa.out.below hw') (by omega) (by omega) (by omega) sq (by omega) hsq2 a c0 L ((HRt.out.up HBa.out HBa.out.size).bl hw') Hb6.out h60).mono ?_
          rintro e'' w7 ⟨err2, T2, A7, c7, got2, QL2, A3, c3, rfl, hn2, hQk⟩
          refine ⟨_, rfl, hQk.kept.wider (fun i _ e' => by have h9 : i = gr := e'; rw [h9]; exact HPt.out.glo), ?_⟩
          have HQk := Lib.hid hQk
          have Hn2 := Lib.hid hn2
          have HX6 : RowKit.Hid (Ext Wa.drew w') := Lib.hid hw'
          clear hw' hQk hn2 ldn ldb
          simp only [Act.put, List.setIfInBounds_toArray, List.set_cons_zero, List.set_cons_succ]
          apply wpR_next 13 (some 78)
          · simp only [List.getElem?_toArray, List.getElem?_cons_succ, List.getElem?_cons_zero]; exact rfl
          · rfl
          · kernel_rfl
          · kernel_rfl
          · kernel_rfl
          · exact fun _ _ _ _ h => h
          apply Exists.intro
          apply And.intro
          · apply yr_run; rfl; intro w' hw'; go_simp; (try with_reducible rfl)
          simp only [Act.put, List.setIfInBounds_toArray, List.set_cons_zero, List.set_cons_succ]
          apply wpR_next 14 (some 92)
          · simp only [List.getElem?_toArray, List.getElem?_cons_succ, List.getElem?_cons_zero]; exact rfl
          · rfl
          · kernel_rfl
          · kernel_rfl
          · kernel_rfl
          · exact fun _ _ _ _ h => h
          apply Exists.intro
          apply And.intro
          · apply yr_run; rfl; intro w' hw'; go_simp; (try with_reducible rfl)
          simp only [Act.put, List.setIfInBounds_toArray, List.set_cons_zero, List.set_cons_succ]
          apply wpR_next 15 (some 93)
          · simp only [List.getElem?_toArray, List.getElem?_cons_succ, List.getElem?_cons_zero]; exact rfl
          · rfl
          · kernel_rfl
          · kernel_rfl
          · kernel_rfl
          · exact fun _ _ _ _ h => h
          apply Exists.intro
          apply And.intro
          · apply yr_run; rfl; intro w' hw'; go_simp; (try with_reducible rfl)
          simp only [Act.put, List.setIfInBounds_toArray, List.set_cons_zero, List.set_cons_succ]
          apply wpR_next 16 (some 12)
          · simp only [List.getElem?_toArray, List.getElem?_cons_succ, List.getElem?_cons_zero]; exact rfl
          · rfl
          · kernel_rfl
          · kernel_rfl
          · kernel_rfl
          · exact fun _ _ _ _ h => h
          apply Exists.intro
          apply And.intro
          · apply yr_run; rfl; intro w' hw'; go_simp; (try with_reducible rfl)
          simp only [Act.put, List.setIfInBounds_toArray, List.set_cons_zero, List.set_cons_succ]
          apply wpR_next 17 (some 13)
          · simp only [List.getElem?_toArray, List.getElem?_cons_succ, List.getElem?_cons_zero]; exact rfl
          · rfl
          · kernel_rfl
          · kernel_rfl
          · kernel_rfl
          · exact fun _ _ _ _ h => h
          apply Exists.intro
          apply And.intro
          · apply yr_run; rfl; intro w' hw'; go_simp; (try with_reducible rfl)
          simp only [Act.put, List.setIfInBounds_toArray, List.set_cons_zero, List.set_cons_succ]
          refine wpR_done (by kernel_rfl) ?_ _
          intro Wb hwb
          have HXb : RowKit.Hid (Ext w7 Wb) := Lib.hid hwb
          clear hwb HQs
          obtain ⟨e1, e2, e3, e4, h7⟩ := HPt.out.tookB hab HTa.out (Ext.trans HXa.out HX6.out) Hn2.out HQk.out
          subst e1
          subst e3
          have hl5 := HTa.out.rel.len
          have hTl : T.length ≤ 100 := by have h1 := HPt.out.rv.count; omega
          have HP7 := Lib.hid h7
          have HP8 := Lib.hid (h7.down HXb.out)
          have Hab := Lib.hid e4
          have hg5 : got2 ≤ 65 * (k + 1) := by have h1 := HPt.out.rv.count; omega
          have hn5 : n' ≤ k + 1 := by have := HTa.out.nle; omega
          have hlt2 : T2.length = T.length := (abs17_len e2).symm
          have hS := same17 A5 A7 T.length c5 c7 (T.map (·.2.1)) (T2.map (·.2.1)) (T.map (fun e : HE => e.2.2)) Wb ((((HTa.out.row.bl HXa.out).bl HX6.out).kept_ne HQk.out.kept (fun a ha h0 e' => by
              have q1 := HTa.out.new_ a ha
              have q2 := HPt.out.q.box.lt
              have q3 : a.block = gr := e'
              omega)).bl HXb.out) (by rw [← hlt2]; exact HQk.out.row.bl HXb.out) (by simp) (by omega)
            (fun i L hL => by
              obtain ⟨y, hy, h1, rfl⟩ := row_list hL
              exact ⟨_, h1, (((((HTa.out.told y hy).1.below HXa.out).below HX6.out).keep HQk.out.kept (fun b hb => by have h9 : b = gr := hb; rw [h9]; exact hoffT.out y hy)).below HXb.out)⟩)
            (fun i L hL => by
              rw [abs17_snd e2] at hL
              obtain ⟨y, hy, h1, rfl⟩ := row_list hL
              exact ⟨_, h1, (HQk.out.told y hy).below HXb.out⟩)
          rw [← hlt2] at hS
          rw [show T.length = T2.length from hlt2.symm]
          have HS := Lib.hid hS
          clear hS h7 e2 e4 hlt2 hl5
          go_wp2_with fail
          refine HS.out.mono ?_
          rintro e w9 ⟨rfl, hb9⟩
          have HP9 := Lib.hid (HP8.out.down hb9)
          clear hb9 HS HP8 HP7 HQk HTa HPt HX6 HXa HXb HQa hoffT
          go_upto_region 19 with fail
          have HP9d := Lib.hid (HP9.out.down ((Below.refl _ _).drew))
          have ldq : ∀ w', Kept Nil_ w9.drew w' → w'.cell? ⟨gr, 2, none⟩ = some (.slice A3 QL2.length c3) := fun w' hk => hk.nil_cell (HP9d.out.q.box.cell (i := 2) rfl)
          have hcn2 := HP9.out.rv.count
          have hcq2 : QL2.length ≤ 64 := by have := abs17_len Hab.out; omega
          refine wp_region_reg (Nil_) (by kernel_rfl) ?_
          apply wpR_next 0 (some 97)
          · simp only [List.getElem?_toArray, List.getElem?_cons_succ, List.getElem?_cons_zero]; exact rfl
          · rfl
          · kernel_rfl
          · kernel_rfl
          · kernel_rfl
          · exact fun _ _ _ _ h => h
          apply Exists.intro
          apply And.intro
          · apply yr_run; rfl; intro w' hw'; go_simp; (try with_reducible rfl)
          simp only [Act.put, List.setIfInBounds_toArray, List.set_cons_zero, List.set_cons_succ]
          apply wpR_next 2 (some 99)
          · simp only [List.getElem?_toArray, List.getElem?_cons_succ, List.getElem?_cons_zero]; exact rfl
          · rfl
          · kernel_rfl
          · kernel_rfl
          · kernel_rfl
          · exact fun _ _ _ _ h => h
          apply Exists.intro
          apply And.intro
          · apply yr_run; rfl; intro w' hw'; go_simp; (try with_reducible rfl)
          simp only [Act.put, List.setIfInBounds_toArray, List.set_cons_zero, List.set_cons_succ]
          apply wpR_next 3 (some 100)
          · simp only [List.getElem?_toArray, List.getElem?_cons_succ, List.getElem?_cons_zero]; exact rfl
          · rfl
          · kernel_rfl
          · kernel_rfl
          · kernel_rfl
          · exact fun _ _ _ _ h => h
          apply Exists.intro
          apply And.intro
          · apply yr_run; rfl; intro w' hw'; go_simp; (try with_reducible rfl)
          simp only [Act.put, List.setIfInBounds_toArray, List.set_cons_zero, List.set_cons_succ]
          apply wpR_next 4 (some 101)
          · simp only [List.getElem?_toArray, List.getElem?_cons_succ, List.getElem?_cons_zero]; exact rfl
          · rfl
          · kernel_rfl
          · kernel_rfl
          · kernel_rfl
          · exact fun _ _ _ _ h => h
          apply Exists.intro
          apply And.intro
          · apply yr_run; rfl; intro w' hw'; go_simp; (try with_reducible rfl)
          simp only [Act.put, List.setIfInBounds_toArray, List.set_cons_zero, List.set_cons_succ]
          apply wpR_next 5 (some 102)
          · simp only [List.getElem?_toArray, List.getElem?_cons_succ, List.getElem?_cons_zero]; exact rfl
          · rfl
          · kernel_rfl
          · kernel_rfl
          · kernel_rfl
          · exact fun _ _ _ _ h => h
          apply Exists.intro
          apply And.intro
          · apply yr_run; rfl; intro w' hw'; go_simp; (try with_reducible rfl)
          simp only [Act.put, List.setIfInBounds_toArray, List.set_cons_zero, List.set_cons_succ]
          apply wpR_call 1 (some 98)
          · simp only [List.getElem?_toArray, List.getElem?_cons_succ, List.getElem?_cons_zero]; exact rfl
          · rfl
          · kernel_rfl
          · rfl
          · intro w'; go_simp; first | done | exact ⟨rfl, rfl⟩ | with_reducible rfl
          intro w' hw'
          refine (rv_held w' (HP9d.out.rv.below hw') (by omega)).mono ?_
          rintro e'' w10 ⟨A10, c10, rfl, hr10, -, hb10⟩
          refine ⟨_, rfl, Kept.of_below hb10, ?_⟩
          have HR10 := Lib.hid hr10
          have HXg : RowKit.Hid (Ext w9.drew w10) := Lib.hid (Ext.trans hw' hb10)
          clear hw' hr10 hb10
          simp only [Act.put, List.setIfInBounds_toArray, List.set_cons_zero, List.set_cons_succ]
          apply wpR_call 6 (some 103)
          · simp only [List.getElem?_toArray, List.getElem?_cons_succ, List.getElem?_cons_zero]; exact rfl
          · rfl
          · kernel_rfl
          · rfl
          · intro w'; go_simp; first | done | exact ⟨rfl, rfl⟩ | with_reducible rfl
          intro w' hw'
          refine (seqs_any A3 c3 QL2 w' (HP9d.out.q.below (Ext.trans HXg.out hw')).row (by omega)).mono ?_
          rintro e'' w11 ⟨A11, c11, rfl, hr11, hb11⟩
          refine ⟨_, rfl, Kept.of_below hb11, ?_⟩
          have HR11 := Lib.hid hr11
          have HR10b := Lib.hid ((HR10.out.bl hw').bl hb11)
          have HXh : RowKit.Hid (Ext w9.drew w11) := Lib.hid (Ext.trans (Ext.trans HXg.out hw') hb11)
          clear hw' hr11 hb11 HR10 HXg
          simp only [Act.put, List.setIfInBounds_toArray, List.set_cons_zero, List.set_cons_succ]
          apply wpR_call 7 (some 104)
          · simp only [List.getElem?_toArray, List.getElem?_cons_succ, List.getElem?_cons_zero]; exact rfl
          · rfl
          · kernel_rfl
          · rfl
          · intro w'; go_simp; first | done | exact ⟨rfl, rfl⟩ | with_reducible rfl
          intro w' hw'
          have hlq : HL'.length = QL2.length := abs17_len Hab.out
          have hi7 := ints_eq A10 A11 HL'.length c10 c11 (nums17 HL') w' (HR10b.out.bl hw') (by have h1 := HR11.out.bl hw'; rw [← hlq, ← nums17_abs Hab.out] at h1; exact h1) (by omega)
          rw [show QL2.length = HL'.length from hlq.symm]
          refine hi7.mono ?_
          rintro e'' w12 ⟨rfl, hb12⟩
          refine ⟨_, rfl, Kept.of_below hb12, ?_⟩
          have HXi : RowKit.Hid (Ext w9.drew w12) := Lib.hid (Ext.trans (Ext.trans HXh.out hw') hb12)
          clear hw' hi7 hlq hb12 HR10b HR11 HXh
          simp only [Act.put, List.setIfInBounds_toArray, List.set_cons_zero, List.set_cons_succ]
          apply wpR_next 8 (some 15)
          · simp only [List.getElem?_toArray, List.getElem?_cons_succ, List.getElem?_cons_zero]; exact rfl
          · rfl
          · kernel_rfl
          · kernel_rfl
          · kernel_rfl
          · exact fun _ _ _ _ h => h
          apply Exists.intro
          apply And.intro
          · apply yr_run; rfl; intro w' hw'; go_simp; (try with_reducible rfl)
          simp only [Act.put, List.setIfInBounds_toArray, List.set_cons_zero, List.set_cons_succ]
          refine wpR_done (by kernel_rfl) ?_ _
          intro Wd hwd
          have HPe := Lib.hid (HP9d.out.down (Ext.trans HXi.out hwd))
          clear hwd HXi ldq HP9d HP9
          go_upto_region 20 with fail
          have KB : ∀ {u v : World}, Kept Nil_ u v → Below u.heap.size u v := fun h => h.below (Nat.le_refl _) (fun _ _ h => h)
          have ldg : ∀ w', Kept Nil_ Wd.drew w' → w'.cell? ⟨gr, 1, none⟩ = some (.int .i64 (got2 : Int)) := fun w' hk => hk.nil_cell (HPe.out.q.box.drew.cell (i := 1) rfl)
          have HQ : RowKit.Hid (∀ w', Kept Nil_ Wd.drew w' → Calls Try.prog 34 #[.pointer (some ⟨g2, 0, none⟩)] w' fun e w'' => e = .returned (.int .i64 (got2 : Int)) ∧ Below w'.heap.size w' w'') := Lib.hid (fun w' hk => rv_got w' (HPe.out.rv.drew.below (KB hk)))
          clear KB
          refine wp_region_reg (Nil_) (by kernel_rfl) ?_
          apply wpR_next 0 (some 105)
          · simp only [List.getElem?_toArray, List.getElem?_cons_succ, List.getElem?_cons_zero]; exact rfl
          · rfl
          · kernel_rfl
          · kernel_rfl
          · kernel_rfl
          · exact fun _ _ _ _ h => h
          apply Exists.intro
          apply And.intro
          · apply yr_run; rfl; intro w' hw'; go_simp; (try with_reducible rfl)
          simp only [Act.put, List.setIfInBounds_toArray, List.set_cons_zero, List.set_cons_succ]
          apply wpR_next 1 (some 106)
          · simp only [List.getElem?_toArray, List.getElem?_cons_succ, List.getElem?_cons_zero]; exact rfl
          · rfl
          · kernel_rfl
          · kernel_rfl
          · kernel_rfl
          · exact fun _ _ _ _ h => h
          apply Exists.intro
          apply And.intro
          · apply yr_run; rfl; intro w' hw'; go_simp; (try with_reducible rfl)
          simp only [Act.put, List.setIfInBounds_toArray, List.set_cons_zero, List.set_cons_succ]
          apply wpR_next 2 (some 107)
          · simp only [List.getElem?_toArray, List.getElem?_cons_succ, List.getElem?_cons_zero]; exact rfl
          · rfl
          · kernel_rfl
          · kernel_rfl
          · kernel_rfl
          · exact fun _ _ _ _ h => h
          apply Exists.intro
          apply And.intro
          · apply yr_run; rfl; intro w' hw'; go_simp; (try with_reducible rfl)
          simp only [Act.put, List.setIfInBounds_toArray, List.set_cons_zero, List.set_cons_succ]
          apply wpR_next 3 (some 108)
          · simp only [List.getElem?_toArray, List.getElem?_cons_succ, List.getElem?_cons_zero]; exact rfl
          · rfl
          · kernel_rfl
          · kernel_rfl
          · kernel_rfl
          · exact fun _ _ _ _ h => h
          apply Exists.intro
          apply And.intro
          · apply yr_run; rfl; intro w' hw'; go_simp; (try with_reducible rfl)
          simp only [Act.put, List.setIfInBounds_toArray, List.set_cons_zero, List.set_cons_succ]
          apply wpR_next 4 (some 109)
          · simp only [List.getElem?_toArray, List.getElem?_cons_succ, List.getElem?_cons_zero]; exact rfl
          · rfl
          · kernel_rfl
          · kernel_rfl
          · kernel_rfl
          · exact fun _ _ _ _ h => h
          apply Exists.intro
          apply And.intro
          · apply yr_run; rfl; intro w' hw'; go_simp; (try with_reducible rfl)
          simp only [Act.put, List.setIfInBounds_toArray, List.set_cons_zero, List.set_cons_succ]
          apply wpR_next 5 (some 110)
          · simp only [List.getElem?_toArray, List.getElem?_cons_succ, List.getElem?_cons_zero]; exact rfl
          · rfl
          · kernel_rfl
          · kernel_rfl
          · kernel_rfl
          · exact fun _ _ _ _ h => h
          apply Exists.intro
          apply And.intro
          · apply yr_run; rfl; intro w' hw'; go_simp; (try with_reducible rfl)
          simp only [Act.put, List.setIfInBounds_toArray, List.set_cons_zero, List.set_cons_succ]
          apply wpR_next 6 (some 111)
          · simp only [List.getElem?_toArray, List.getElem?_cons_succ, List.getElem?_cons_zero]; exact rfl
          · rfl
          · kernel_rfl
          · kernel_rfl
          · kernel_rfl
          · exact fun _ _ _ _ h => h
          apply Exists.intro
          apply And.intro
          · apply yr_run; rfl; intro w' hw'; go_simp; (try with_reducible rfl)
          simp only [Act.put, List.setIfInBounds_toArray, List.set_cons_zero, List.set_cons_succ]
          apply wpR_next 7 (some 112)
          · simp only [List.getElem?_toArray, List.getElem?_cons_succ, List.getElem?_cons_zero]; exact rfl
          · rfl
          · kernel_rfl
          · kernel_rfl
          · kernel_rfl
          · exact fun _ _ _ _ h => h
          apply Exists.intro
          apply And.intro
          · apply yr_run; rfl; intro w' hw'; go_simp; (try with_reducible rfl)
          simp only [Act.put, List.setIfInBounds_toArray, List.set_cons_zero, List.set_cons_succ]
          apply wpR_next 8 (some 113)
          · simp only [List.getElem?_toArray, List.getElem?_cons_succ, List.getElem?_cons_zero]; exact rfl
          · rfl
          · kernel_rfl
          · kernel_rfl
          · kernel_rfl
          · exact fun _ _ _ _ h => h
          apply Exists.intro
          apply And.intro
          · apply yr_run; rfl; intro w' hw'; go_simp; (try with_reducible rfl)
          simp only [Act.put, List.setIfInBounds_toArray, List.set_cons_zero, List.set_cons_succ]
          apply wpR_next 9 (some 114)
          · simp only [List.getElem?_toArray, List.getElem?_cons_succ, List.getElem?_cons_zero]; exact rfl
          · rfl
          · kernel_rfl
          · kernel_rfl
          · kernel_rfl
          · exact fun _ _ _ _ h => h
          apply Exists.intro
          apply And.intro
          · apply yr_call; rfl; rotate_left; intro w' hw'; exact HQ.out w' hw'; intro w'; go_simp
          simp only [Act.put, List.setIfInBounds_toArray, List.set_cons_zero, List.set_cons_succ]
          apply wpR_next 10 (some 115)
          · simp only [List.getElem?_toArray, List.getElem?_cons_succ, List.getElem?_cons_zero]; exact rfl
          · rfl
          · kernel_rfl
          · kernel_rfl
          · kernel_rfl
          · exact fun _ _ _ _ h => h
          apply Exists.intro
          apply And.intro
          · apply yr_run; rfl; intro w' hw'; go_simp; (try with_reducible rfl)
          simp only [Act.put, List.setIfInBounds_toArray, List.set_cons_zero, List.set_cons_succ]
          apply wpR_next 11 (some 116)
          · simp only [List.getElem?_toArray, List.getElem?_cons_succ, List.getElem?_cons_zero]; exact rfl
          · rfl
          · kernel_rfl
          · kernel_rfl
          · kernel_rfl
          · exact fun _ _ _ _ h => h
          apply Exists.intro
          apply And.intro
          · apply yr_run; rfl; intro w' hw'; go_simp; (try with_reducible rfl)
          simp only [Act.put, List.setIfInBounds_toArray, List.set_cons_zero, List.set_cons_succ]
          apply wpR_next 12 (some 117)
          · simp only [List.getElem?_toArray, List.getElem?_cons_succ, List.getElem?_cons_zero]; exact rfl
          · rfl
          · kernel_rfl
          · kernel_rfl
          · kernel_rfl
          · exact fun _ _ _ _ h => h
          apply Exists.intro
          apply And.intro
          · apply yr_run; rfl; intro w' hw'; go_simp; (try with_reducible rfl)
          simp only [Act.put, List.setIfInBounds_toArray, List.set_cons_zero, List.set_cons_succ]
          apply wpR_next 13 (some 118)
          · simp only [List.getElem?_toArray, List.getElem?_cons_succ, List.getElem?_cons_zero]; exact rfl
          · rfl
          · kernel_rfl
          · kernel_rfl
          · kernel_rfl
          · exact fun _ _ _ _ h => h
          apply Exists.intro
          apply And.intro
          · apply yr_run; rfl; intro w' hw'; go_simp; (try with_reducible rfl)
          simp only [Act.put, List.setIfInBounds_toArray, List.set_cons_zero, List.set_cons_succ]
          apply wpR_next 14 (some 119)
          · simp only [List.getElem?_toArray, List.getElem?_cons_succ, List.getElem?_cons_zero]; exact rfl
          · rfl
          · kernel_rfl
          · kernel_rfl
          · kernel_rfl
          · exact fun _ _ _ _ h => h
          apply Exists.intro
          apply And.intro
          · apply yr_run; rfl; intro w' hw'; go_simp; (try with_reducible rfl)
          simp only [Act.put, List.setIfInBounds_toArray, List.set_cons_zero, List.set_cons_succ]
          apply wpR_next 15 (some 120)
          · simp only [List.getElem?_toArray, List.getElem?_cons_succ, List.getElem?_cons_zero]; exact rfl
          · rfl
          · kernel_rfl
          · kernel_rfl
          · kernel_rfl
          · exact fun _ _ _ _ h => h
          apply Exists.intro
          apply And.intro
          · apply yr_run; rfl; intro w' hw'; go_simp; (try with_reducible rfl)
          simp only [Act.put, List.setIfInBounds_toArray, List.set_cons_zero, List.set_cons_succ]
          apply wpR_next 16 (some 121)
          · simp only [List.getElem?_toArray, List.getElem?_cons_succ, List.getElem?_cons_zero]; exact rfl
          · rfl
          · kernel_rfl
          · kernel_rfl
          · kernel_rfl
          · exact fun _ _ _ _ h => h
          apply Exists.intro
          apply And.intro
          · apply yr_run; rfl; intro w' hw'; go_simp; (try with_reducible rfl)
          simp only [Act.put, List.setIfInBounds_toArray, List.set_cons_zero, List.set_cons_succ]
          apply wpR_next 17 (some 122)
          · simp only [List.getElem?_toArray, List.getElem?_cons_succ, List.getElem?_cons_zero]; exact rfl
          · rfl
          · kernel_rfl
          · kernel_rfl
          · kernel_rfl
          · exact fun _ _ _ _ h => h
          apply Exists.intro
          apply And.intro
          · apply yr_run; rfl; intro w' hw'; go_simp; (try with_reducible rfl)
          simp only [Act.put, List.setIfInBounds_toArray, List.set_cons_zero, List.set_cons_succ]
          apply wpR_next 18 (some 123)
          · simp only [List.getElem?_toArray, List.getElem?_cons_succ, List.getElem?_cons_zero]; exact rfl
          · rfl
          · kernel_rfl
          · kernel_rfl
          · kernel_rfl
          · exact fun _ _ _ _ h => h
          apply Exists.intro
          apply And.intro
          · apply yr_run; rfl; intro w' hw'; go_simp; (try with_reducible rfl)
          simp only [Act.put, List.setIfInBounds_toArray, List.set_cons_zero, List.set_cons_succ]
          apply wpR_next 19 (some 124)
          · simp only [List.getElem?_toArray, List.getElem?_cons_succ, List.getElem?_cons_zero]; exact rfl
          · rfl
          · kernel_rfl
          · kernel_rfl
          · kernel_rfl
          · exact fun _ _ _ _ h => h
          apply Exists.intro
          apply And.intro
          · apply yr_run; rfl; intro w' hw'; go_simp; (try with_reducible rfl)
          simp only [Act.put, List.setIfInBounds_toArray, List.set_cons_zero, List.set_cons_succ]
          refine wpR_done (by kernel_rfl) ?_ _
          intro We hwe
          have HPf := Lib.hid (HPe.out.down (Ext.trans ((Below.refl _ _).drew) hwe))
          clear hwe ldg HQ HPe
          go_wp2
          go_roundw
          case rel => exact ⟨k + 1, g2, by omega, by go_num, rfl, Lib.hid ⟨bm2, got2, n', D', HL', QL2, A3, c3, HPf.out, Hab.out, hg5, hn5⟩⟩
          case measure => simp [intOf]; omega
    · have Hlt := Lib.hid hlt
      clear hlt
      by_cases h4 : k < n
      · have t1 : decide (k < n) = true := decide_eq_true h4
        have t2 : ¬ ((k : Int) < 100) := by have := Hlt.out; omega
        go_wp2_with fail
        go_ret
        exact ⟨rfl, by obtain ⟨_, _, _, _, _, _, _, _, hB, -⟩ := HP.out; exact hB.below⟩
      · have t1 : decide (k < n) = false := decide_eq_false h4
        go_wp2_with fail
        go_ret
        exact ⟨rfl, by obtain ⟨_, _, _, _, _, _, _, _, hB, -⟩ := HP.out; exact hB.below⟩
end Go.Proofs.Ythfngmlnmpbcpaa
