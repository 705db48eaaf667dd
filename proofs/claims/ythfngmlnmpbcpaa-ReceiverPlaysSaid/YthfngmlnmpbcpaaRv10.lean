/- The law ReceiverCopies. -/
import Derived.Test.YthfngmlnmpbcpaaRv9
import Derived.Test.YthfngmlnmpbcpaaRv7
namespace Go.Proofs.Ythfngmlnmpbcpaa
open Go.RowKit Go.Maps
set_option linter.unusedSimpArgs false
set_option linter.unusedVariables false

theorem RvFar.took {win got hs got' g bm b : Nat} {HL T HL' : List HE} {x err : Int} {L : List Nat} (h : RvFar g bm HL b) (hb : b < hs) (r : TookRel win got HL x L hs err T got' HL') : RvFar g bm HL' b ∧ ∀ y ∈ T, Off y.2.1 b := by
  have h1 := r.all (P := fun y => Off y.2.1 b) h.each (fun s _ _ _ sl hs => hs b hb)
  exact ⟨⟨h.g_, h.m_, h1.2⟩, h1.1⟩
/-- Two receivers beside each other. -/
structure PrIn (w wr : World) (win ga gotA ba na : Nat) (Da : DataW Value) (HLa : List HE) (gb gotB bb nb : Nat) (Db : DataW Value) (HLb : List HE) : Prop where
  a : RvIn w.heap.size wr ga win gotA ba na Da HLa
  b : RvIn w.heap.size wr gb win gotB bb nb Db HLb
  fa1 : RvFar ga ba HLa gb
  fa2 : RvFar ga ba HLa bb
  fb1 : RvFar gb bb HLb ga
  fb2 : RvFar gb bb HLb ba
  below : Below w.heap.size w wr
theorem PrIn.swap {w wr : World} {ga gotA ba na gb gotB bb nb win : Nat} {Da Db : DataW Value} {HLa HLb : List HE} (h : PrIn w wr win ga gotA ba na Da HLa gb gotB bb nb Db HLb) : PrIn w wr win gb gotB bb nb Db HLb ga gotA ba na Da HLa := ⟨h.b, h.a, h.fb1, h.fb2, h.fa1, h.fa2, h.below⟩
theorem PrIn.down {w wr : World} {ga gotA ba na gb gotB bb nb win : Nat} {Da Db : DataW Value} {HLa HLb : List HE} {W : World} (h : PrIn w wr win ga gotA ba na Da HLa gb gotB bb nb Db HLb) (hb : Below wr.heap.size wr W) : PrIn w W win ga gotA ba na Da HLa gb gotB bb nb Db HLb := ⟨h.a.below hb, h.b.below hb, h.fa1, h.fa2, h.fb1, h.fb2, bel_bl h.below hb⟩
/-- What is written is none of theirs. -/
theorem PrIn.off {w wr : World} {ga gotA ba na gb gotB bb nb win : Nat} {Da Db : DataW Value} {HLa HLb : List HE} {S : Nat → Prop} {W : World} (h : PrIn w wr win ga gotA ba na Da HLa gb gotB bb nb Db HLb) (hk : Kept S wr W) (h1 : ∀ i, S i → RvFar ga ba HLa i) (h2 : ∀ i, S i → RvFar gb bb HLb i) (h3 : ∀ i, S i → w.heap.size ≤ i) : PrIn w W win ga gotA ba na Da HLa gb gotB bb nb Db HLb :=
  ⟨h.a.keep hk h1, h.b.keep hk h2, h.fa1, h.fa2, h.fb1, h.fb2, h.below.trans (hk.below h.below.size (fun i hi e => by have := h3 i e; omega))⟩
theorem PrIn.took {w wr : World} {ga gotA ba na gb gotB bb nb win : Nat} {Da Db : DataW Value} {HLa HLb : List HE} {w5 : World} {x err : Int} {L : List Nat} {T HL' : List HE} {A : Option Addr} {c got' n' : Nat} {D' : DataW Value} (h : PrIn w wr win ga gotA ba na Da HLa gb gotB bb nb Db HLb) (hT : TookIn w.heap.size wr ga win gotA ba na HLa x L w5 err T A c got' n' D' HL') : PrIn w w5 win ga got' ba n' D' HL' gb gotB bb nb Db HLb :=
  ⟨hT.rv, h.b.keep hT.kept (fun i hi => by rcases hi with hi | hi; rw [hi]; exact h.fb1; rw [hi]; exact h.fb2), (h.fa1.took h.b.box.lt hT.rel).1, (h.fa2.took h.b.map.lt hT.rel).1, h.fb1, h.fb2, h.below.trans (h.a.far hT.kept h.below.size)⟩
/-- Both hold alike. -/
structure CoIn (w wr : World) (k ga gb ba bb got na nb : Nat) (Da : DataW Value) (HLa : List HE) (Db : DataW Value) (HLb : List HE) : Prop where
  pr : PrIn w wr 20 ga got ba na Da HLa gb got bb nb Db HLb
  ab : abs17 HLa = abs17 HLb
  gk : got ≤ 65 * k
  nak : na ≤ k
  nbk : nb ≤ k
theorem CoIn.down {w wr W : World} {k ga gb ba bb got na nb : Nat} {Da Db : DataW Value} {HLa HLb : List HE} (h : CoIn w wr k ga gb ba bb got na nb Da HLa Db HLb) (hb : Below wr.heap.size wr W) : CoIn w W k ga gb ba bb got na nb Da HLa Db HLb := ⟨h.pr.down hb, h.ab, h.gk, h.nak, h.nbk⟩
/-- Both took alike. -/
theorem CoIn.took {w w4 w5 w6 w7 : World} {k ga gb ba bb got na nb got' n' got2 n2 c c2 : Nat} {Da Db D' D2 : DataW Value} {HLa HLb HL' T HL2 T2 : List HE} {x err err2 : Int} {L : List Nat} {A A2 : Option Addr} (h : CoIn w w4 k ga gb ba bb got na nb Da HLa Db HLb)
    (hT : TookIn w.heap.size w4 ga 20 got ba na HLa x L w5 err T A c got' n' D' HL') (h6 : PrIn w w6 20 ga got' ba n' D' HL' gb got bb nb Db HLb) (hT2 : TookIn w.heap.size w6 gb 20 got bb nb HLb x L w7 err2 T2 A2 c2 got2 n2 D2 HL2) :
    got2 = got' ∧ abs17 T = abs17 T2 ∧ CoIn w w7 (k + 1) ga gb ba bb got' n' n2 D' HL' D2 HL2 := by
  have hs := hT.rel.same hT2.rel h.ab
  obtain ⟨e1, e2, e3, e4⟩ := hs
  subst e3
  have hl := hT.rel.len
  have hc := h.pr.a.count
  exact ⟨rfl, e2, (h6.swap.took hT2).swap, e4, by have := h.gk; omega, by have := hT.nle; have := h.nak; omega, by have := hT2.nle; have := h.nbk; omega⟩
theorem row_list {es : List HE} {i : Nat} {L : List Nat} (h : (es.map (fun e : HE => e.2.2))[i]? = some L) : ∃ y ∈ es, (es.map (·.2.1))[i]? = some y.2.1 ∧ y.2.2 = L := by
  rw [List.getElem?_map] at h
  cases hy : es[i]? with
  | none => rw [hy] at h; cases h
  | some y => rw [hy] at h; exact ⟨y, List.mem_of_getElem? hy, by simp [hy], Option.some.inj h⟩
set_option maxRecDepth 100000 in
set_option maxHeartbeats 8000000 in
theorem law_copies (A : Option Addr) (n c : Nat) (xs : List Int) (AO : Option Addr) (no co : Nat) (ys : List Int) (w : World) (h : RdS w w.heap.size 1 A n c (rowsV intC xs)) (hn : n ≤ maxLen) (ho : RdS w w.heap.size 1 AO no co (rowsV intC ys)) (hno : no ≤ maxLen) :
    Calls Try.prog 8 #[.slice A n c, .slice AO no co] w fun e w' => e = .returned (.bool true) ∧ Below w.heap.size w w' := by
  have hl := h.rlen intC_len (by decide)
  have hlo := ho.rlen intC_len (by decide)
  unfold maxLen at hn hno
  have HR := Lib.hid h
  have Hl := Lib.hid hl
  have HO := Lib.hid ho
  have Hlo := Lib.hid hlo
  clear h hl ho hlo
  go_enter Try.func8, Try.ntmps8
  go_wp2_with fail
  refine (shown17 _).mono ?_
  rintro e w1 ⟨rfl, hb1⟩
  have HB1 := Lib.hid hb1
  clear hb1
  go_wp2_with fail
  refine (rv_new 20 w1).mono ?_
  rintro e w2 ⟨ga, win, ba, rfl, hwin, hS, hb2⟩
  obtain rfl : win = 20 := by
    have : min (max (20 : Int) 1) 64 = 20 := by decide
    omega
  have HS2 := Lib.hid hS
  have HB2 := Lib.hid (bel_bl HB1.out hb2)
  have HB12 := Lib.hid hb2
  clear hwin hS hb2
  go_wp2_with fail
  refine (rv_new 20 w2).mono ?_
  rintro e w3 ⟨gb, win, bb, rfl, hwin, hS, hb3⟩
  obtain rfl : win = 20 := by
    have : min (max (20 : Int) 1) 64 = 20 := by decide
    omega
  have HC0 : RowKit.Hid (CoIn w w3 0 ga gb ba bb 0 0 0 (.map []) [] (.map []) []) := Lib.hid (by
    have h1 := HS2.out.lower HB1.out.size
    have h2 := hS.lower HB2.out.size
    have q1 := HS2.out.box.lt
    have q2 := HS2.out.map.lt
    have q3 := hS.lo
    have q4 := hS.blo
    exact ⟨⟨h1.below hb3, h2, h1.fresh hS.lo, h1.fresh hS.blo, ⟨by omega, by omega, fun e he => (by cases he)⟩, ⟨by omega, by omega, fun e he => (by cases he)⟩, bel_bl HB2.out hb3⟩, rfl, Nat.le_refl _, Nat.le_refl _, Nat.le_refl _⟩)
  clear hwin hS hb3 HS2 HB2 HB1 HB12
  go_wp2
  go_loopw [8] (fun si wr => ∃ (k got na nb : Nat) (Da : DataW Value) (HLa : List HE) (Db : DataW Value) (HLb : List HE), k ≤ 40 ∧ si = .int .i64 k ∧ RowKit.Hid (CoIn w wr k ga gb ba bb got na nb Da HLa Db HLb)) (fun si _ => 40 - (intOf si).toNat)
  case atStart => exact ⟨0, 0, 0, 0, _, _, _, _, by omega, rfl, HC0⟩
  case round =>
    clear HC0
    obtain ⟨k, got, na, nb, Da, HLa, Db, HLb, hk, rfl, HC⟩ := hrel
    have hgk := HC.out.gk
    have hna := HC.out.nak
    have hnb := HC.out.nbk
    by_cases hlt : k < n ∧ k < 40
    · obtain ⟨hkn, hk40⟩ := hlt
      have t1 : decide (k < n) = true := decide_eq_true hkn
      have t2 : decide ((k : Int) < 40) = true := decide_eq_true (by omega)
      obtain ⟨wo, gwo⟩ : ∃ z, wr = z := ⟨_, rfl⟩
      rw [gwo] at HC ⊢
      clear gwo
      obtain ⟨v, hv⟩ : ∃ v, xs[k]? = some v := ⟨_, List.getElem?_eq_getElem (by have := Hl.out; omega)⟩
      obtain ⟨bx, off, rfl, hbB, hpl⟩ := introw HR.out (by omega)
      have lc := (HC.out.pr.below.cell (p := ⟨bx, off + k, none⟩) hbB).trans (hpl k v hv)
      obtain ⟨r, gr⟩ : ∃ r, v.tmod 20 = r := ⟨_, rfl⟩
      have hr1 : r < 20 := by rw [← gr]; exact Int.tmod_lt_of_pos _ (by decide)
      have hr2 : -20 < r := by rw [← gr]; exact Int.lt_tmod_of_pos _ (by decide)
      have hwr : IntKind.i64.wrap r = r := IntWalk.i64_in _ (by omega)
      have hxr : (Lit.int .i64 r).wf = true := wf_i64 (by omega) (by omega)
      obtain ⟨bt, hbt, hw8, -⟩ := u8_wrap r
      have HTk := Lib.hid (take_any (wo.alloc (.cells #[.int .u8 (bt : Int)] 5)) (HC.out.pr.a.below (below1 wo (.cells #[.int .u8 (bt : Int)] 5))) (by omega) (by omega) (Nat.le_trans HC.out.pr.below.size (below1 wo (.cells #[.int .u8 (bt : Int)] 5)).size) (by omega) r hxr (some ⟨wo.heap.size, 0, none⟩) 1 [bt] (RdS.of_whole (size := 1) (n := 1) (Whole.new_ wo 5 [.int .u8 (bt : Int)]) rfl) (by simpa using hbt) (by simp))
      clear hv hpl hbB
      go_wp2_with fail
      clear lc gr hwr
      refine HTk.out.mono ?_
      rintro e w5 ⟨err, T, A5, c5, got', n', D', HL', rfl, hT⟩
      have h4 := HC.out.down (below1 wo (.cells #[.int .u8 (bt : Int)] 5))
      have hsz : (wo.alloc (.cells #[.int .u8 (bt : Int)] 5)).heap.size = wo.heap.size + 1 := by simp
      have hP5 := h4.pr.took hT
      have hW5 := hT.kept.whole (Whole.new_ wo 5 [.int .u8 (bt : Int)]) (fun e' => by
        have q1 := HC.out.pr.a.box.lt
        have q2 := HC.out.pr.a.map.lt
        omega)
      have hfa : RvFar ga ba HL' wo.heap.size := ((HC.out.pr.a.fresh (Nat.le_refl _)).took (by omega) hT.rel).1
      have hfb : RvFar gb bb HLb wo.heap.size := HC.out.pr.b.fresh (Nat.le_refl _)
      have HP6 : RowKit.Hid (PrIn w (w5.setCell ⟨wo.heap.size, 0, none⟩ (.int .u8 99)) 20 ga got' ba n' D' HL' gb got bb nb Db HLb) := Lib.hid (hP5.off (S := fun i => i = wo.heap.size) ((Kept.refl (fun i => i = wo.heap.size) w5).setCell (p := ⟨wo.heap.size, 0, none⟩) (.inl rfl) (.int .u8 99)) (fun i hi => by rw [hi]; exact hfa) (fun i hi => by rw [hi]; exact hfb) (fun i hi => by rw [hi]; exact HC.out.pr.below.size))
      have H4 := Lib.hid h4
      have HT := Lib.hid hT
      have hcl := hW5.cell (i := 0) rfl
      have hfr := hW5.free 0
      obtain ⟨o5, go5⟩ : ∃ z, wo.heap.size = z := ⟨_, rfl⟩
      rw [go5] at HP6 hcl hfr ⊢
      clear h4 hP5 hW5 hfa hfb hT HTk HC hsz go5
      go_upto_region 13 with fail
      obtain ⟨w6, gw6⟩ : ∃ z, w5.setCell ⟨o5, 0, none⟩ (.int .u8 99) = z := ⟨_, rfl⟩
      rw [gw6] at HP6
      rw [gw6]
      clear gw6 hcl hfr
      have hnb2 : nb ≤ 100000 := by omega
      have HTk := Lib.hid (take_any (w6.alloc (.cells #[.int .u8 (bt : Int)] 5)) (HP6.out.b.below (below1 w6 (.cells #[.int .u8 (bt : Int)] 5))) (by omega) (by omega) (Nat.le_trans HP6.out.below.size (below1 w6 (.cells #[.int .u8 (bt : Int)] 5)).size) (by omega) r hxr (some ⟨w6.heap.size, 0, none⟩) 1 [bt] (RdS.of_whole (size := 1) (n := 1) (Whole.new_ w6 5 [.int .u8 (bt : Int)]) rfl) (by simpa using hbt) (by simp))
      go_wp2_with fail
      refine HTk.out.mono ?_
      rintro e w7 ⟨err2, T2, A7, c7, got2, n2, D2, HL2, rfl, hT2⟩
      obtain ⟨e3, -, hC7⟩ := H4.out.took HT.out (HP6.out.down (below1 w6 (.cells #[.int .u8 (bt : Int)] 5))) hT2
      have HC7 := Lib.hid hC7
      clear hT2 hC7 HTk H4 HT HP6 e3 hw8
      go_wp2
      go_roundw
      case rel => exact ⟨k + 1, got', n', n2, D', HL', D2, HL2, by omega, by go_num, HC7⟩
      case measure => simp [intOf]; omega
    · have Hlt := Lib.hid hlt
      clear hlt
      go_upto_region 7 with fail
      go_cut [39] (fun v z => v = .bool false ∧ z = wr)
      case first =>
        by_cases h4 : k < n
        · have t1 : decide (k < n) = true := decide_eq_true h4
          have t2 : ¬ ((k : Int) < 40) := by have := Hlt.out; omega
          go_wp2_with fail
          go_meet
          exact ⟨rfl, rfl⟩
        · have t1 : decide (k < n) = false := decide_eq_false h4
          go_wp2_with fail
          go_meet
          exact ⟨rfl, rfl⟩
      case rest =>
        obtain ⟨rfl, hcz⟩ := hcut
        subst hcz
        clear Hlt
        have HCl := Lib.hid (rv_clone wc HC.out.pr.a HC.out.pr.below.size (by omega))
        go_wp2_with fail
        refine HCl.out.mono ?_
        rintro e w4 ⟨gc, bc, n4, D4, HL4, rfl, hgc, hbc, hR4, hab4, hof4, hn4, hb4⟩
        have HC4 := Lib.hid (HC.out.down hb4)
        have HR4 := Lib.hid (hR4.lower HC.out.pr.below.size)
        have HFa : RowKit.Hid (∀ i, (i = gc ∨ i = bc) → RvFar ga ba HLa i) := Lib.hid (fun i hi => by rcases hi with hi | hi; rw [hi]; exact HC.out.pr.a.fresh hgc; rw [hi]; exact HC.out.pr.a.fresh hbc)
        have HFb : RowKit.Hid (∀ i, (i = gc ∨ i = bc) → RvFar gb bb HLb i) := Lib.hid (fun i hi => by rcases hi with hi | hi; rw [hi]; exact HC.out.pr.b.fresh hgc; rw [hi]; exact HC.out.pr.b.fresh hbc)
        have HFw : RowKit.Hid (∀ i, (i = gc ∨ i = bc) → w.heap.size ≤ i) := Lib.hid (fun i hi => by have := HC.out.pr.below.size; rcases hi with hi | hi; omega; omega)
        have hn4' : n4 ≤ 40 := by omega
        clear hgc hbc hR4 hab4 hof4 hn4 hb4 HCl HC
        go_wp2
        go_loopw [12] (fun si wr => ∃ (j gotc nc : Nat) (Dc : DataW Value) (HLc : List HE), j ≤ 40 ∧ si = .int .i64 j ∧ gotc ≤ got + 65 * j ∧ nc ≤ 40 + j ∧ RowKit.Hid (RvIn w.heap.size wr gc 20 gotc bc nc Dc HLc) ∧ RowKit.Hid (CoIn w wr k ga gb ba bb got na nb Da HLa Db HLb)) (fun si _ => 40 - (intOf si).toNat)
        case atStart => exact ⟨0, got, n4, D4, HL4, by omega, rfl, by omega, by omega, HR4, HC4⟩
        case round =>
          clear HR4 HC4
          obtain ⟨j, gotc, nc, Dc, HLc, hj, rfl, hgc, hnc, HRc, HC⟩ := hrel
          by_cases hlt : j < no ∧ j < 40
          · obtain ⟨hjn, hj40⟩ := hlt
            have t1 : decide (j < no) = true := decide_eq_true hjn
            have t2 : decide ((j : Int) < 40) = true := decide_eq_true (by omega)
            obtain ⟨wo, gwo⟩ : ∃ z, wr = z := ⟨_, rfl⟩
            rw [gwo] at HRc HC ⊢
            clear gwo
            obtain ⟨v, hv⟩ : ∃ v, ys[j]? = some v := ⟨_, List.getElem?_eq_getElem (by have := Hlo.out; omega)⟩
            obtain ⟨bx, off, rfl, hbB, hpl⟩ := introw HO.out (by omega)
            have lc := (HC.out.pr.below.cell (p := ⟨bx, off + j, none⟩) hbB).trans (hpl j v hv)
            obtain ⟨r, gr⟩ : ∃ r, v.tmod 20 = r := ⟨_, rfl⟩
            have hr1 : r < 20 := by rw [← gr]; exact Int.tmod_lt_of_pos _ (by decide)
            have hr2 : -20 < r := by rw [← gr]; exact Int.lt_tmod_of_pos _ (by decide)
            have hwr : IntKind.i64.wrap r = r := IntWalk.i64_in _ (by omega)
            have hxr : (Lit.int .i64 r).wf = true := wf_i64 (by omega) (by omega)
            have HTk := Lib.hid (take_any (wo.alloc (.cells #[.int .u8 7] 5)) (HRc.out.below (below1 wo (.cells #[.int .u8 7] 5))) (by omega) (by omega) (Nat.le_trans HC.out.pr.below.size (below1 wo (.cells #[.int .u8 7] 5)).size) (by omega) r hxr (some ⟨wo.heap.size, 0, none⟩) 1 [7] (RdS.of_whole (size := 1) (n := 1) (Whole.new_ wo 5 [.int .u8 7]) rfl) (by decide) (by decide))
            have hcc := HRc.out.count
            clear hv hpl hbB
            go_wp2_with fail
            clear lc gr hwr
            refine HTk.out.mono ?_
            rintro e w5 ⟨err, T, A5, c5, got', n', D', HL', rfl, hT⟩
            have hl5 := hT.rel.len
            have hg5 : got' ≤ got + 65 * (j + 1) := by omega
            have hn5 : n' ≤ 40 + (j + 1) := by have := hT.nle; omega
            have HC5 : RowKit.Hid (CoIn w w5 k ga gb ba bb got na nb Da HLa Db HLb) := Lib.hid (by
              have h4 := HC.out.down (below1 wo (.cells #[.int .u8 7] 5))
              exact ⟨h4.pr.off hT.kept HFa.out HFb.out HFw.out, h4.ab, h4.gk, h4.nak, h4.nbk⟩)
            have HR5 := Lib.hid hT.rv
            clear hT hl5 HTk HC HRc
            go_wp2
            go_roundw
            case rel => exact ⟨j + 1, got', n', D', HL', by omega, by go_num, hg5, hn5, HR5, HC5⟩
            case measure => simp [intOf]; omega
          · have Hlt := Lib.hid hlt
            clear hlt
            go_upto_region 18 with fail
            go_cut [73] (fun v z => v = .bool false ∧ z = wr)
            case first =>
              by_cases h4 : j < no
              · have t1 : decide (j < no) = true := decide_eq_true h4
                have t2 : ¬ ((j : Int) < 40) := by have := Hlt.out; omega
                go_wp2_with fail
                go_meet
                exact ⟨rfl, rfl⟩
              · have t1 : decide (j < no) = false := decide_eq_false h4
                go_wp2_with fail
                go_meet
                exact ⟨rfl, rfl⟩
            case rest =>
              obtain ⟨rfl, hcz⟩ := hcut
              subst hcz
              clear Hlt HRc HFa HFb HFw
              go_wp2_with fail
              refine (rv_got wc HC.out.pr.a).mono ?_
              rintro e w5 ⟨rfl, hb5⟩
              have HC5 := Lib.hid (HC.out.down hb5)
              clear hb5 HC
              go_wp2_with fail
              refine (rv_got w5 HC5.out.pr.b).mono ?_
              rintro e w6 ⟨rfl, hb6⟩
              have HC6 := Lib.hid (HC5.out.down hb6)
              clear hb6 HC5
              go_wp2_with fail
              refine (rv_held w6 HC6.out.pr.a (by omega)).mono ?_
              rintro e w7 ⟨A7, c7, rfl, hr7, -, hb7⟩
              have HC7 := Lib.hid (HC6.out.down hb7)
              have HR7 := Lib.hid hr7
              clear hr7 hb7 HC6
              go_wp2_with fail
              refine (rv_held w7 HC7.out.pr.b (by omega)).mono ?_
              rintro e w8 ⟨A8, c8, rfl, hr8, -, hb8⟩
              have HC8 := Lib.hid (HC7.out.down hb8)
              have hI := ints_eq A7 A8 HLa.length c7 c8 (nums17 HLa) w8 (HR7.out.bl hb8) (by have h1 := hr8; rw [← abs17_len HC7.out.ab, ← nums17_abs HC7.out.ab] at h1; exact h1) (by have := HC7.out.pr.a.count; omega)
              rw [show HLb.length = HLa.length from (abs17_len HC7.out.ab).symm]
              have HI := Lib.hid hI
              clear hI hr8 hb8 HC7 HR7
              go_wp2_with fail
              refine HI.out.mono ?_
              rintro e w9 ⟨rfl, hb9⟩
              have HC9 := Lib.hid (HC8.out.down hb9)
              clear hb9 HI HC8
              go_wp2_with fail
              refine (rv_got w9 HC9.out.pr.a).mono ?_
              rintro e w10 ⟨rfl, hb10⟩
              have HC10 := Lib.hid (HC9.out.down hb10)
              clear hb10 HC9
              have hwg : IntKind.i64.wrap ((got : Int) + 1) = ((got + 1 : Nat) : Int) := by rw [IntWalk.i64_in _ (by omega)]; omega
              obtain ⟨m0, gm0⟩ : ∃ z, got + 1 = z := ⟨_, rfl⟩
              rw [gm0] at hwg
              have hm0 : m0 ≤ 10000 := by omega
              clear gm0
              go_wp2
              clear hwg
              go_loopw [13] (fun si wr => ∃ (m K got na nb : Nat) (Da : DataW Value) (HLa : List HE) (Db : DataW Value) (HLb : List HE), m ≤ 10100 ∧ K ≤ 40 + m ∧ si = .int .i64 m ∧ RowKit.Hid (CoIn w wr K ga gb ba bb got na nb Da HLa Db HLb)) (fun si _ => 20 - (intOf si).toNat)
              case atStart => exact ⟨m0, k, got, na, nb, Da, HLa, Db, HLb, by omega, by omega, rfl, HC10⟩
              case round =>
                clear HC10
                obtain ⟨m, K, got, na, nb, Da, HLa, Db, HLb, hm, hK, rfl, HC⟩ := hrel
                have hgk := HC.out.gk
                have hna := HC.out.nak
                have hnb := HC.out.nbk
                by_cases hm20 : m < 20
                · have t1 : decide ((m : Int) < 20) = true := decide_eq_true (by omega)
                  have t2 : m < 20 := hm20
                  have hxr : (Lit.int .i64 (m : Int)).wf = true := wf_i64 (by omega) (by omega)
                  obtain ⟨bt, hbt, hw8, -⟩ := u8_wrap (m : Int)
                  obtain ⟨wo, gwo⟩ : ∃ z, wr = z := ⟨_, rfl⟩
                  rw [gwo] at HC ⊢
                  clear gwo
                  have HTk := Lib.hid (take_any (wo.alloc (.cells #[.int .u8 (bt : Int)] 5)) (HC.out.pr.a.below (below1 wo (.cells #[.int .u8 (bt : Int)] 5))) (by omega) (by omega) (Nat.le_trans HC.out.pr.below.size (below1 wo (.cells #[.int .u8 (bt : Int)] 5)).size) (by omega) (m : Int) hxr (some ⟨wo.heap.size, 0, none⟩) 1 [bt] (RdS.of_whole (size := 1) (n := 1) (Whole.new_ wo 5 [.int .u8 (bt : Int)]) rfl) (by simpa using hbt) (by simp))
                  go_wp2_with fail
                  refine HTk.out.mono ?_
                  rintro e w5 ⟨err, T, A5, c5, got', n', D', HL', rfl, hT⟩
                  have H4 := Lib.hid (HC.out.down (below1 wo (.cells #[.int .u8 (bt : Int)] 5)))
                  have HT := Lib.hid hT
                  have HP5 := Lib.hid (H4.out.pr.took hT)
                  clear hT HTk
                  have HTk := Lib.hid (take_any (w5.alloc (.cells #[.int .u8 (bt : Int)] 5)) (HP5.out.b.below (below1 w5 (.cells #[.int .u8 (bt : Int)] 5))) (by omega) (by omega) (Nat.le_trans HP5.out.below.size (below1 w5 (.cells #[.int .u8 (bt : Int)] 5)).size) (by omega) (m : Int) hxr (some ⟨w5.heap.size, 0, none⟩) 1 [bt] (RdS.of_whole (size := 1) (n := 1) (Whole.new_ w5 5 [.int .u8 (bt : Int)]) rfl) (by simpa using hbt) (by simp))
                  go_wp2_with fail
                  refine HTk.out.mono ?_
                  rintro e w7 ⟨err2, T2, A7, c7, got2, n2, D2, HL2, rfl, hT2⟩
                  obtain ⟨e3, hab, hC7⟩ := H4.out.took HT.out (HP5.out.down (below1 w5 (.cells #[.int .u8 (bt : Int)] 5))) hT2
                  have HC7 := Lib.hid hC7
                  have hTl : T.length ≤ 100 := by have h1 := HT.out.rel.len; have h2 := H4.out.pr.a.count; omega
                  have hlt2 : T2.length = T.length := (abs17_len hab).symm
                  have hoff5 : ∀ y ∈ T, Off y.2.1 gb ∧ Off y.2.1 bb := fun y hy => ⟨(H4.out.pr.fa1.took H4.out.pr.b.box.lt HT.out.rel).2 y hy, (H4.out.pr.fa2.took H4.out.pr.b.map.lt HT.out.rel).2 y hy⟩
                  have hS := same17 A5 A7 T.length c5 c7 (T.map (·.2.1)) (T2.map (·.2.1)) (T.map (fun e : HE => e.2.2)) w7 ((HT.out.row.al (.cells #[.int .u8 (bt : Int)] 5)).kept_ne hT2.kept (fun a ha h0 e' => by
                      have q1 := HT.out.new_ a ha
                      have q2 := H4.out.pr.b.box.lt
                      have q3 := H4.out.pr.b.map.lt
                      omega)) (by rw [← hlt2]; exact hT2.row) (by simp) (by omega)
                    (fun i L hL => by
                      obtain ⟨y, hy, h1, rfl⟩ := row_list hL
                      exact ⟨_, h1, ((HT.out.told y hy).1.below (below1 w5 (.cells #[.int .u8 (bt : Int)] 5))).keep hT2.kept (fun b hb => by rcases hb with hb | hb; rw [hb]; exact (hoff5 y hy).1; rw [hb]; exact (hoff5 y hy).2)⟩)
                    (fun i L hL => by
                      rw [abs17_snd hab] at hL
                      obtain ⟨y, hy, h1, rfl⟩ := row_list hL
                      exact ⟨_, h1, (hT2.told y hy).1⟩)
                  rw [← hlt2] at hS
                  rw [show T.length = T2.length from hlt2.symm]
                  have HS := Lib.hid hS
                  clear hS hT2 hC7 HTk H4 HT HP5 e3 hw8 hab hoff5 hlt2 hTl HC
                  go_wp2_with fail
                  refine HS.out.mono ?_
                  rintro e w9 ⟨rfl, hb9⟩
                  have HC9 := Lib.hid (HC7.out.down hb9)
                  clear hb9 HS HC7
                  go_wp2
                  go_roundw
                  case rel => exact ⟨m + 1, K + 1, got', n', n2, D', HL', D2, HL2, by omega, by omega, by go_num, HC9⟩
                  case measure => simp [intOf]; omega
                · have t1 : decide ((m : Int) < 20) = false := decide_eq_false (by omega)
                  have t2 : ¬ (m < 20) := hm20
                  go_wp2_with fail
                  refine (rv_got wr HC.out.pr.a).mono ?_
                  rintro e w5 ⟨rfl, hb5⟩
                  have HC5 := Lib.hid (HC.out.down hb5)
                  clear hb5 HC
                  go_wp2_with fail
                  refine (rv_got w5 HC5.out.pr.b).mono ?_
                  rintro e w6 ⟨rfl, hb6⟩
                  have HC6 := Lib.hid (HC5.out.down hb6)
                  clear hb6 HC5
                  go_wp2
                  go_ret
                  exact ⟨by first | rfl | simp, HC6.out.pr.below⟩
end Go.Proofs.Ythfngmlnmpbcpaa
