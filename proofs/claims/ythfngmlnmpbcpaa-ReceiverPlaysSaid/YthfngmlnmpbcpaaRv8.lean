/- The law ReceiverPairs. -/
import Derived.Test.YthfngmlnmpbcpaaRv6
import Derived.Test.YthfngmlnmpbcpaaOpenG
namespace Go.Proofs.Ythfngmlnmpbcpaa
open Go.RowKit Go.Maps
set_option linter.unusedSimpArgs false
set_option linter.unusedVariables false

/-- A law's row of bytes. -/
abbrev Ar17 := Option Addr × Nat × Nat × List Nat
theorem slCells_len17 (e : Ar17) : (slCells e).length = 1 := rfl
def ArOk17 (w : World) (e : Ar17) : Prop := e.2.2.1 ≤ maxLen ∧ RdS w w.heap.size 1 e.1 e.2.1 e.2.2.1 (rowsV f8 e.2.2.2) ∧ ∀ b ∈ e.2.2.2, b < 256
def txts17 (Es : List Ar17) : List (List Nat) := Es.map (fun e => e.2.2.2.take 60)
theorem txts17_at {Es : List Ar17} {k : Nat} {e : Ar17} (h : Es[k]? = some e) : (txts17 Es)[k]? = some (e.2.2.2.take 60) := by simp [txts17, h]
theorem RdS.of_own_slice {w : World} {base size n m c : Nat} {A : Option Addr} {e : TypeId} {xs : List Value} (h : w.ownsRow base e size (.slice A m c) n xs) : RdS w w.heap.size size A m c xs := by
  obtain ⟨A', c', e', hr⟩ := RdS.of_own h
  injection e' with e1 e2 e3
  subst e1 e2 e3
  exact hr
theorem insH_first {x : HE} {l : List HE} (h : ∀ e ∈ l, x.1 < e.1) : insH x l = x :: l := by
  cases l with
  | nil => rfl
  | cons e r => unfold insH; rw [if_pos (h e (by simp))]
/-- A number that is the next one is got. -/
theorem TookRel.next {win got hs got' : Nat} {HL T HL' : List HE} {err : Int} {L : List Nat} (h : TookRel win got HL ((got : Int) + 1) L hs err T got' HL') (h0 : ∀ y ∈ HL, got + 1 < y.1) (hw : 1 ≤ win) : got + 1 ≤ got' := by
  rcases h with ⟨_, _, _, _, hc⟩ | ⟨_, s, sl, h1, h2, h3, h5, h4, hd⟩
  · exfalso
    rcases hc with ⟨y, hy, hyx⟩ | hc | hc
    · have := h0 y hy; omega
    · omega
    · omega
  · obtain rfl : s = got + 1 := by omega
    rw [insH_first (fun e he => h0 e he), drain_hit rfl] at hd
    have h6 := drain_got (l := HL) (got := got + 1)
    have h7 := congrArg Prod.fst hd
    dsimp only at h7
    omega
/-- A number that is refused or not: what was got is not lost. -/
theorem TookRel.ge {win got hs got' : Nat} {HL T HL' : List HE} {x err : Int} {L : List Nat} (h : TookRel win got HL x L hs err T got' HL') : got ≤ got' := by have := h.len; omega
/-- What was got is gathered, in its order. -/
structure PaIn (w wr : World) (g bm got nm N : Nat) (TX : List (List Nat)) (v : Value) (D : DataW Value) (HL GL : List HE) : Prop where
  rv : RvIn w.heap.size wr g 20 got bm nm D HL
  own : Ow w w.heap.size 32 1 v GL.length (rowsV slc (GL.map (·.2.1))) wr
  len : GL.length = got
  told : ∀ (i : Nat) (y : HE), GL[i]? = some y → y.1 = i + 1 ∧ y.1 ≤ N ∧ TX[i]? = some y.2.2 ∧ Lies wr y.2.1 y.2.2 ∧ Off y.2.1 g ∧ Off y.2.1 bm
  far : ∀ b, v.ownBlock = some b → RvFar g bm HL b ∧ ∀ y ∈ GL, Off y.2.1 b
  left : ∀ e ∈ HL, got + 1 < e.1
  its : ∀ e ∈ HL, e.1 ≤ N ∧ TX[e.1 - 1]? = some e.2.2
theorem PaIn.le {w wr : World} {g bm got nm N : Nat} {TX : List (List Nat)} {v : Value} {D : DataW Value} {HL GL : List HE} (h : PaIn w wr g bm got nm N TX v D HL GL) : got ≤ N := by
  rcases Nat.eq_zero_or_pos got with h0 | h0
  · omega
  · obtain ⟨y, hy⟩ : ∃ y, GL[got - 1]? = some y := ⟨_, List.getElem?_eq_getElem (by have := h.len; omega)⟩
    have := h.told _ y hy
    omega
theorem PaIn.below {w wr W : World} {g bm got nm N : Nat} {TX : List (List Nat)} {v : Value} {D : DataW Value} {HL GL : List HE} (h : PaIn w wr g bm got nm N TX v D HL GL) (hb : Below wr.heap.size wr W) : PaIn w W g bm got nm N TX v D HL GL :=
  ⟨h.rv.below hb, h.own.up hb, h.len, fun i y hy => ⟨(h.told i y hy).1, (h.told i y hy).2.1, (h.told i y hy).2.2.1, (h.told i y hy).2.2.2.1.below hb, (h.told i y hy).2.2.2.2⟩, h.far, h.left, h.its⟩
theorem PaIn.took {w w4 w5 : World} {g bm got nm N kk got' n' c : Nat} {TX : List (List Nat)} {v : Value} {D D' : DataW Value} {HL HL' GL T : List HE} {err : Int} {L : List Nat} {A : Option Addr} (h : PaIn w w4 g bm got nm N TX v D HL GL) (hN : N ≤ 1000) (hk : kk < N) (hL : TX[kk]? = some L)
    (hT : TookIn w.heap.size w4 g 20 got bm nm HL ((kk : Int) + 1) L w5 err T A c got' n' D' HL') (ty : TypeId) :
    ∃ v' W, (Builtin.append_ #[34, 34] ty #[v, .slice A T.length c]).run Try.prog w5 = .ok v' W ∧ PaIn w W g bm got' n' N TX v' D' HL' (GL ++ T) := by
  obtain ⟨i0, hi, hz0, hz1, hz2⟩ := info_parts_ info_sl
  have hlen := hT.rel.len
  have hle := h.le
  have hcnt := h.rv.count
  have hall := hT.rel.all (P := fun y => 0 < y.1 ∧ y.1 ≤ N ∧ TX[y.1 - 1]? = some y.2.2) (fun y hy => ⟨by have := h.left y hy; omega, h.its y hy⟩) (fun s hs h1 h2 sl _ => ⟨by show 0 < s; omega, by show s ≤ N; omega, by show TX[s - 1]? = some L; rw [show s - 1 = kk by omega]; exact hL⟩)
  have hoff : ∀ y : HE, (Off y.2.1 g ∧ Off y.2.1 bm) → ∀ b, (b = g ∨ b = bm) → Off y.2.1 b := fun y hy b hb' => by
    rcases hb' with e' | e'
    · rw [e']; exact hy.1
    · rw [e']; exact hy.2
  have hne : ∀ b, v.ownBlock = some b → ¬ (b = g ∨ b = bm) := fun b hb' e' => by
    rcases e' with e' | e'
    · exact (h.far b hb').1.g_ e'
    · exact (h.far b hb').1.m_ e'
  have hO5 : Ow w w.heap.size 32 1 v GL.length (rowsV slc (GL.map (·.2.1))) w5 := ⟨own_kept h.own.own hT.kept hne, h.own.below.trans (h.rv.far hT.kept h.own.hi), h.own.lo, Nat.le_trans h.own.hi hT.kept.size⟩
  obtain ⟨v', W, hrun, hO, hb, hg, hbk⟩ := Ow.app2 (P := Try.prog) 34 ty 32 i0 _ 1 24 w.heap.size Try.underlying34 hi hz0 hz1 hz2 rfl (by decide) _ _ _ hO5 _ A T.length c _ hT.row (slc_all _) (by unfold maxLen; have := h.len; omega) (by have := h.len; omega)
  rw [← rowsV_app, ← List.map_append] at hO
  have hk : Kept (fun b => some b = v.ownBlock) w5 W := ⟨hg.os, hg.tape, hg.output, hg.size, fun i hi hne => hg.block i hi hne⟩
  have hfar : ∀ b, v.ownBlock = some b → RvFar g bm HL' b ∧ (∀ y ∈ GL, Off y.2.1 b) ∧ ∀ y ∈ T, Off y.2.1 b := fun b hb' => by
    have h1 := h.far b hb'
    have hbl := (h.own.own.lt b hb').2
    have h2 := hT.rel.all (P := fun y => Off y.2.1 b) h1.1.each (fun s _ _ _ sl hs => hs b hbl)
    exact ⟨⟨h1.1.g_, h1.1.m_, h2.2⟩, h1.2, h2.1⟩
  refine ⟨v', W, hrun, ⟨hT.rv.keep hk (fun b hb' => (hfar b hb'.symm).1), by rw [List.length_append]; exact hO, by rw [List.length_append, h.len]; exact hlen.1.symm, fun i y hy => ?_, fun b hb' => ?_, hT.rel.left h.rv.rise h.left, fun e he => (hall.2 e he).2⟩⟩
  · rcases Nat.lt_or_ge i GL.length with hi' | hi'
    · rw [List.getElem?_append_left hi'] at hy
      obtain ⟨q1, q2, q3, q4, q5⟩ := h.told i y hy
      exact ⟨q1, q2, q3, (q4.keep hT.kept (hoff y q5)).keep hk (fun b hb' => (hfar b hb'.symm).2.1 y (List.mem_of_getElem? hy)), q5⟩
    · rw [List.getElem?_append_right hi'] at hy
      have h3 := hT.rel.told hy
      have hm := List.mem_of_getElem? hy
      have h4 := hall.1 y hm
      have h5 := h.len
      have e : y.1 - 1 = i := by omega
      exact ⟨by omega, h4.2.1, by have := h4.2.2; rw [e] at this; exact this, (hT.told y hm).1.keep hk (fun b hb' => (hfar b hb'.symm).2.2 y hm), (hT.told y hm).2⟩
  · rcases hbk with e | e
    · have h6 := hfar b (e.symm.trans hb')
      exact ⟨h6.1, fun y hy => by
        rcases List.mem_append.1 hy with hy | hy
        · exact h6.2.1 y hy
        · exact h6.2.2 y hy⟩
    · obtain rfl := Option.some.inj (hb'.symm.trans e)
      refine ⟨hT.rv.fresh (Nat.le_refl _), fun y hy => ?_⟩
      rcases List.mem_append.1 hy with hy | hy
      · obtain ⟨i, hi'⟩ := List.getElem?_of_mem hy
        obtain ⟨q1, q2, q3, q4, q5⟩ := h.told i y hi'
        exact (q4.keep hT.kept (hoff y q5)).fresh (Nat.le_refl _)
      · exact (hT.told y hy).1.fresh (Nat.le_refl _)
theorem PaIn.first {w w2 : World} {g bm N : Nat} {TX : List (List Nat)} (hR : RvIn w.heap.size w2 g 20 0 bm 0 (.map []) []) (hb : Below w.heap.size w w2) : PaIn w (w2.alloc (.cells #[] 32)) g bm 0 0 N TX (.slice (some ⟨w2.heap.size, 0, none⟩) 0 0) (.map []) [] [] := by
  refine ⟨hR.below (below1 _ _), Ow.new_ (cs := #[]) hb (Nat.le_refl _) hb.size (Nat.zero_le _) rfl, rfl, fun i y hy => (by simp at hy), fun b hb' => ?_, fun e he => (by cases he), fun e he => (by cases he)⟩
  obtain rfl := Option.some.inj hb'
  exact ⟨hR.fresh (Nat.le_refl _), fun y hy => (by cases hy)⟩
set_option maxRecDepth 100000 in
set_option maxHeartbeats 8000000 in
theorem law_pairs (A : Option Addr) (n c : Nat) (Es : List Ar17) (AO : Option Addr) (no co : Nat) (xs : List Int) (w : World) (h : RdS w w.heap.size 1 A n c (rowsV slCells Es)) (he : ∀ e ∈ Es, ArOk17 w e) (hn : n ≤ maxLen) (ho : RdS w w.heap.size 1 AO no co (rowsV intC xs)) (hno : no ≤ maxLen) :
    Calls Try.prog 6 #[.slice A n c, .slice AO no co] w fun e w' => e = .returned (.bool true) ∧ Below w.heap.size w w' := by
  have hl := h.rlen slCells_len17 (by decide)
  have hlo := ho.rlen intC_len (by decide)
  unfold maxLen at hn hno
  obtain ⟨N, gN⟩ : ∃ N : Nat, min (n : Int) 20 = (N : Int) := ⟨(min (n : Int) 20).toNat, by omega⟩
  have hN1 : N ≤ n := by omega
  have hN2 : N ≤ 20 := by omega
  have HR := Lib.hid h
  have HEs := Lib.hid he
  have Hl := Lib.hid hl
  have HO := Lib.hid ho
  have Hlo := Lib.hid hlo
  obtain ⟨i0, hi, hz0, hz1, hz2⟩ := info_parts_ info_u8
  obtain ⟨TX, gTX⟩ : ∃ z, txts17 Es = z := ⟨_, rfl⟩
  have HTX : RowKit.Hid (∀ (i : Nat) (e : Ar17), Es[i]? = some e → TX[i]? = some (e.2.2.2.take 60)) := Lib.hid (fun i e he => by rw [← gTX]; exact txts17_at he)
  clear h he hl ho hlo gTX
  go_enter Try.func6, Try.ntmps6
  go_wp2_with fail
  refine (shown17 _).mono ?_
  rintro e w1 ⟨rfl, hb1⟩
  have HB1 := Lib.hid hb1
  clear hb1
  go_wp2_with fail
  refine (rv_new 20 w1).mono ?_
  rintro e w2 ⟨g, win, bm, rfl, hwin, hS, hb2⟩
  obtain rfl : win = 20 := by
    have : min (max (20 : Int) 1) 64 = 20 := by decide
    omega
  have HP0 : RowKit.Hid (PaIn w (w2.alloc (.cells #[] 32)) g bm 0 0 N TX (.slice (some ⟨w2.heap.size, 0, none⟩) 0 0) (.map []) [] []) := Lib.hid (PaIn.first (hS.lower HB1.out.size) (bel_bl HB1.out hb2))
  clear hwin hS hb2 HB1
  go_wp2
  clear gN
  obtain ⟨W3, gW3⟩ : ∃ z, w2.alloc (.cells #[] 32) = z := ⟨_, rfl⟩
  obtain ⟨g3, gg3⟩ : ∃ z, w2.heap.size = z := ⟨_, rfl⟩
  rw [gW3, gg3] at HP0
  rw [gW3, gg3]
  clear gW3 gg3
  go_loopw [8, 9] (fun sv si wr => ∃ (k got nm : Nat) (D : DataW Value) (HL GL : List HE), k ≤ 150 ∧ si = .int .i64 k ∧ nm ≤ k ∧ RowKit.Hid (PaIn w wr g bm got nm N TX sv D HL GL)) (fun _ si _ => 150 - (intOf si).toNat)
  case atStart => exact ⟨0, 0, 0, _, _, _, by omega, rfl, Nat.le_refl _, HP0⟩
  case round =>
    clear HP0
    obtain ⟨k, got, nm, D, HL, GL, hk, rfl, hnm, HP⟩ := hrel
    obtain ⟨Av, cv, rfl, -⟩ := HP.out.own.rds
    have hgle := HP.out.le
    by_cases hlt : k < no ∧ k < 150 ∧ 0 < N
    · obtain ⟨hkn, hk150, hN0⟩ := hlt
      have t1 : decide (k < no) = true := decide_eq_true hkn
      have t2 : decide ((k : Int) < 150) = true := decide_eq_true (by omega)
      have t3 : decide ((0 : Int) < (N : Int)) = true := decide_eq_true (by omega)
      obtain ⟨v, hv⟩ : ∃ v, xs[k]? = some v := ⟨_, List.getElem?_eq_getElem (by have := Hlo.out; omega)⟩
      obtain ⟨bo, oo, rfl, hbo, hpo⟩ := introw HO.out (by omega)
      have lc := (HP.out.own.below.cell (p := ⟨bo, oo + k, none⟩) hbo).trans (hpo k v hv)
      obtain ⟨r, gr⟩ : ∃ r, v.tmod (N : Int) = r := ⟨_, rfl⟩
      have hr1 : r < N := by rw [← gr]; exact Int.tmod_lt_of_pos _ (by omega)
      have hr2 : -(N : Int) < r := by rw [← gr]; exact Int.lt_tmod_of_pos _ (by omega)
      have hwr : IntKind.i64.wrap r = r := IntWalk.i64_in _ (by omega)
      have hwn : IntKind.i64.wrap (-r) = -r := IntWalk.i64_in _ (by omega)
      have z1 : ((N : Int) == 0) = false := beq_eq_false_iff_ne.2 (by omega)
      have z2 : ¬ (N : Int) = 0 := by omega
      have z3 : ¬ N = 0 := by omega
      clear hv hpo hbo
      obtain ⟨wo, gwo⟩ : ∃ z, wr = z := ⟨_, rfl⟩
      rw [gwo] at HP lc ⊢
      clear gwo
      go_upto_if 50 with fail
      clear lc z1 z2 z3 gr hwr
      go_cut [10] (fun sk z => ∃ kk : Nat, kk < N ∧ sk = .int .i64 kk ∧ z = wo)
      case first =>
        by_cases h0 : r < 0
        · have d0 : decide (r < 0) = true := decide_eq_true h0
          obtain ⟨kk, hkk⟩ : ∃ kk : Nat, -r = (kk : Int) := ⟨(-r).toNat, by omega⟩
          rw [hkk] at hwn
          go_wp2_with fail
          go_meet
          exact ⟨kk, by omega, by first | rfl | rw [hkk], rfl⟩
        · have d0 : decide (r < 0) = false := decide_eq_false h0
          obtain ⟨kk, hkk⟩ : ∃ kk : Nat, r = (kk : Int) := ⟨r.toNat, by omega⟩
          go_wp2_with fail
          go_meet
          exact ⟨kk, by omega, by first | rfl | rw [hkk], rfl⟩
      case rest =>
        obtain ⟨kk, hkk, rfl, hcz⟩ := hcut
        subst hcz
        clear hwn hr1 hr2
        obtain ⟨⟨a, m, c0, L0⟩, hx⟩ : ∃ x, Es[kk]? = some x := ⟨_, List.getElem?_eq_getElem (by have := Hl.out; omega)⟩
        obtain ⟨hm, hr0, h256⟩ := HEs.out _ (List.mem_of_getElem? hx)
        have htx := HTX.out kk _ hx
        obtain ⟨bb, off, rfl, hbB, hpl⟩ := HR.out.place slCells_len17 (by decide) (by omega)
        have hc0 := hpl kk _ hx 0 _ rfl
        rw [Addr.add_lit] at hc0
        simp only [Nat.add_zero, Nat.mul_one] at hc0
        have hsh := fun W hr => short17 a m c0 L0 W hr (Nat.le_trans hr0.le hm)
        have hrt := hr0.fewer8 60
        have hb6 : ∀ b ∈ L0.take 60, b < 256 := fun b hb => h256 b (List.mem_of_mem_take hb)
        have h60 : (L0.take 60).length ≤ 60 := by rw [List.length_take]; omega
        obtain ⟨L, gL⟩ : ∃ y, L0.take 60 = y := ⟨_, rfl⟩
        rw [gL] at hsh hrt htx hb6 h60
        have HSh := Lib.hid hsh
        have HRt := Lib.hid hrt
        have Hb6 := Lib.hid hb6
        have Htx := Lib.hid htx
        have Hr0 := Lib.hid hr0
        have lc := (bel_al HP.out.own.below (.cells #[] 5)).cell (p := ⟨bb, off + kk, none⟩) hbB
        rw [hc0] at lc
        have hkn2 : kk < n := by omega
        have hw1 : IntKind.i64.wrap ((kk : Int) + 1) = (kk : Int) + 1 := IntWalk.i64_in _ (by omega)
        have hxk : (Lit.int .i64 ((kk : Int) + 1)).wf = true := wf_i64 (by omega) (by omega)
        clear hx hm hr0 h256 htx hpl hc0 hsh hrt gL hb6 hbB
        go_upto_region 13 with fail
        have HRa := Lib.hid (Hr0.out.up (bel_al HP.out.own.below (.cells #[] 5)) (bel_al HP.out.own.below (.cells #[] 5)).size)
        have HRb := Lib.hid (HRt.out.up (bel_al HP.out.own.below (.cells #[] 5)) (bel_al HP.out.own.below (.cells #[] 5)).size)
        go_wp2_with (first
          | (go_at_call 29
             refine (HSh.out _ HRa.out).mono ?_
             rintro e w3 ⟨rfl, rfl⟩)
          | (at_builtin
             refine wpList_push2 rfl (.tmp 57) (.tmp 62) _ rfl _ 5 i0 _ 1 1 Try.underlying32 hi hz0 hz1 hz2 rfl (by decide) _ _ _ rfl (Ow.new_ (cs := #[]) (Below.refl _ _) (Nat.le_refl _) (Nat.le_refl _) (Nat.zero_le _) rfl) _ _ _ _ _ rfl HRb.out (f8_all _) (by unfold maxLen; omega) (by omega) ?_
             intro v1 w4 how1 hb4 hgr
             rw [Nat.zero_add, List.nil_append] at how1
             obtain ⟨Ap, cp, rfl, hr4⟩ := how1.rds
             have HOW := Lib.hid how1
             have HRp := Lib.hid hr4
             clear how1 hb4 hgr hr4))
        have HP4 := Lib.hid (HP.out.below HOW.out.below)
        have HTk := Lib.hid (take_any w4 HP4.out.rv (by omega) (by omega) HP4.out.own.hi (by omega) ((kk : Int) + 1) hxk Ap cp L HRp.out Hb6.out h60)
        clear HRa HRb HRp HOW lc HP HRt
        refine HTk.out.mono ?_
        rintro e w5 ⟨err, T, A5, c5, got', n', D', HL', rfl, hT⟩
        have hn' := hT.nle
        obtain ⟨v', W6, hrun, hP6⟩ := HP4.out.took (by omega) hkk Htx.out hT 34
        obtain ⟨A6, c6, rfl, -⟩ := hP6.own.rds
        rw [show (GL ++ T).length = GL.length + T.length from List.length_append] at hrun hP6
        have Hrun := Lib.hid hrun
        have HP6 := Lib.hid hP6
        clear hT hrun hP6 HTk HP4
        go_wp2_with (first
          | (at_builtin
             refine wpList_app rfl (.tmp 67) (.tmp 68) _ rfl rfl rfl Hrun.out ?_))
        go_roundw
        case rel => exact ⟨k + 1, got', n', D', HL', _, by omega, by go_num, by omega, HP6⟩
        case measure => simp [intOf]; omega
    · have HP1 : RowKit.Hid (∃ (got nm : Nat) (D : DataW Value) (HL GL : List HE) (sv : Value), sv = .slice Av GL.length cv ∧ nm ≤ 150 ∧ 0 ≤ got ∧ PaIn w wr g bm got nm N TX sv D HL GL) := Lib.hid ⟨got, nm, D, HL, GL, _, rfl, by omega, by omega, HP.out⟩
      have Hlt := Lib.hid hlt
      clear hlt
      go_upto_region 8 with fail
      go_cut [40] (fun v z => v = .bool false ∧ z = wr)
      case first =>
        by_cases h4 : k < no
        · have t1 : decide (k < no) = true := decide_eq_true h4
          by_cases h5 : k < 150
          · have t2 : decide ((k : Int) < 150) = true := decide_eq_true (by omega)
            obtain rfl : N = 0 := by have := Hlt.out; omega
            go_wp2_with fail
            go_meet
            exact ⟨rfl, rfl⟩
          · have t2 : ¬ ((k : Int) < 150) := by omega
            go_wp2_with fail
            go_meet
            exact ⟨rfl, rfl⟩
        · have t1 : decide (k < no) = false := decide_eq_false h4
          go_wp2_with fail
          go_meet
          exact ⟨rfl, rfl⟩
      case rest =>
        obtain ⟨rfl, hcz⟩ := hcut
        subst hcz
        clear HP1 Hlt
        go_wp2
        go_loopw [8, 13] (fun sv sk wr => ∃ (j got nm : Nat) (D : DataW Value) (HL GL : List HE), j ≤ N ∧ sk = .int .i64 j ∧ nm ≤ 150 + j ∧ j ≤ got ∧ RowKit.Hid (PaIn w wr g bm got nm N TX sv D HL GL)) (fun _ sk _ => N - (intOf sk).toNat)
        case atStart => exact ⟨0, got, nm, D, HL, GL, by omega, rfl, by omega, by omega, HP⟩
        case round =>
          clear HP hgle
          obtain ⟨kk, got, nm, D, HL, GL, hj, rfl, hnm2, hjg, HP⟩ := hrel
          obtain ⟨Av, cv, rfl, -⟩ := HP.out.own.rds
          have hgle := HP.out.le
          by_cases hkk : kk < N
          · obtain ⟨wc, gwc⟩ : ∃ z, wr = z := ⟨_, rfl⟩
            rw [gwc] at HP ⊢
            clear gwc
            obtain ⟨⟨a, m, c0, L0⟩, hx⟩ : ∃ x, Es[kk]? = some x := ⟨_, List.getElem?_eq_getElem (by have := Hl.out; omega)⟩
            obtain ⟨hm, hr0, h256⟩ := HEs.out _ (List.mem_of_getElem? hx)
            have htx := HTX.out kk _ hx
            obtain ⟨bb, off, rfl, hbB, hpl⟩ := HR.out.place slCells_len17 (by decide) (by omega)
            have hc0 := hpl kk _ hx 0 _ rfl
            rw [Addr.add_lit] at hc0
            simp only [Nat.add_zero, Nat.mul_one] at hc0
            have hsh := fun W hr => short17 a m c0 L0 W hr (Nat.le_trans hr0.le hm)
            have hrt := hr0.fewer8 60
            have hb6 : ∀ b ∈ L0.take 60, b < 256 := fun b hb => h256 b (List.mem_of_mem_take hb)
            have h60 : (L0.take 60).length ≤ 60 := by rw [List.length_take]; omega
            obtain ⟨L, gL⟩ : ∃ y, L0.take 60 = y := ⟨_, rfl⟩
            rw [gL] at hsh hrt htx hb6 h60
            have HSh := Lib.hid hsh
            have HRt := Lib.hid hrt
            have Hb6 := Lib.hid hb6
            have Htx := Lib.hid htx
            have Hr0 := Lib.hid hr0
            have lc := (bel_al HP.out.own.below (.cells #[] 5)).cell (p := ⟨bb, off + kk, none⟩) hbB
            rw [hc0] at lc
            have hkn2 : kk < n := by omega
            have hw1 : IntKind.i64.wrap ((kk : Int) + 1) = (kk : Int) + 1 := IntWalk.i64_in _ (by omega)
            have hxk : (Lit.int .i64 ((kk : Int) + 1)).wf = true := wf_i64 (by omega) (by omega)
            clear hx hm hr0 h256 htx hpl hc0 hsh hrt gL hb6 hbB
            go_upto_region 18 with fail
            have HRa := Lib.hid (Hr0.out.up (bel_al HP.out.own.below (.cells #[] 5)) (bel_al HP.out.own.below (.cells #[] 5)).size)
            have HRb := Lib.hid (HRt.out.up (bel_al HP.out.own.below (.cells #[] 5)) (bel_al HP.out.own.below (.cells #[] 5)).size)
            go_wp2_with (first
              | (go_at_call 29
                 refine (HSh.out _ HRa.out).mono ?_
                 rintro e w3 ⟨rfl, rfl⟩)
              | (at_builtin
                 refine wpList_push2 rfl (.tmp 79) (.tmp 84) _ rfl _ 5 i0 _ 1 1 Try.underlying32 hi hz0 hz1 hz2 rfl (by decide) _ _ _ rfl (Ow.new_ (cs := #[]) (Below.refl _ _) (Nat.le_refl _) (Nat.le_refl _) (Nat.zero_le _) rfl) _ _ _ _ _ rfl HRb.out (f8_all _) (by unfold maxLen; omega) (by omega) ?_
                 intro v1 w4 how1 hb4 hgr
                 rw [Nat.zero_add, List.nil_append] at how1
                 obtain ⟨Ap, cp, rfl, hr4⟩ := how1.rds
                 have HOW := Lib.hid how1
                 have HRp := Lib.hid hr4
                 clear how1 hb4 hgr hr4))
            have HP4 := Lib.hid (HP.out.below HOW.out.below)
            have HTk := Lib.hid (take_any w4 HP4.out.rv (by omega) (by omega) HP4.out.own.hi (by omega) ((kk : Int) + 1) hxk Ap cp L HRp.out Hb6.out h60)
            clear HRa HRb HRp HOW lc HP HRt
            refine HTk.out.mono ?_
            rintro e w5 ⟨err, T, A5, c5, got', n', D', HL', rfl, hT⟩
            have hn' := hT.nle
            have hge : kk + 1 ≤ got' := by
              rcases Nat.lt_or_ge kk got with h1 | h1
              · have := hT.rel.ge; omega
              · obtain rfl : kk = got := by omega
                exact hT.rel.next HP4.out.left (by omega)
            obtain ⟨v', W6, hrun, hP6⟩ := HP4.out.took (by omega) hkk Htx.out hT 34
            obtain ⟨A6, c6, rfl, -⟩ := hP6.own.rds
            rw [show (GL ++ T).length = GL.length + T.length from List.length_append] at hrun hP6
            have Hrun := Lib.hid hrun
            have HP6 := Lib.hid hP6
            clear hT hrun hP6 HTk HP4
            go_wp2_with (first
              | (at_builtin
                 refine wpList_app rfl (.tmp 89) (.tmp 90) _ rfl rfl rfl Hrun.out ?_))
            go_roundw
            case rel => exact ⟨kk + 1, got', n', D', HL', _, by omega, by go_num, by omega, hge, HP6⟩
            case measure => simp [intOf]; omega
          · obtain rfl : N = kk := by omega
            obtain rfl : N = got := by omega
            have hHL : HL = [] := by
              cases HL with
              | nil => rfl
              | cons e r => have h1 := HP.out.left e (by simp); have h2 := HP.out.its e (by simp); omega
            subst hHL
            have hGl := HP.out.len
            rw [hGl]
            have HPd : RowKit.Hid (∀ W, Below wr.heap.size wr W → PaIn w W g bm N nm N TX (.slice Av N cv) D [] GL) := Lib.hid (fun W hb => by have h1 := HP.out; rw [hGl] at h1; exact h1.below hb)
            have HGl := Lib.hid hGl
            clear hGl
            go_upto_region 20 with fail
            go_cut [107] (fun v z => v = .bool false ∧ RowKit.Hid (Below wr.heap.size wr z))
            case first =>
              go_wp2_with fail
              refine (rv_got wr HP.out.rv).mono ?_
              rintro e w7 ⟨rfl, hb7⟩
              have HB7 := Lib.hid hb7
              have HHd := Lib.hid (rv_held w7 (HP.out.rv.below hb7) (by omega))
              clear hb7
              go_wp2_with fail
              refine HHd.out.mono ?_
              rintro e w8 ⟨A8, c8, rfl, -, -, hb8⟩
              have HB8 : RowKit.Hid (Below wr.heap.size wr w8) := Lib.hid (HB7.out.trans (hb8.mono HB7.out.size))
              clear hb8
              go_wp2_with fail
              go_meet
              exact ⟨rfl, HB8⟩
            case rest =>
              obtain ⟨rfl, HB8⟩ := hcut
              have HPc := Lib.hid (HPd.out _ HB8.out)
              clear HB8 HPd HP
              go_wp2
              go_loopw [16] (fun si wr => ∃ i : Nat, i ≤ N ∧ si = .int .i64 i ∧ RowKit.Hid (Below wc.heap.size wc wr)) (fun si _ => N - (intOf si).toNat)
              case atStart => exact ⟨0, Nat.zero_le _, rfl, Lib.hid (Below.refl _ _)⟩
              case round =>
                obtain ⟨i, hi', rfl, HJ⟩ := hrel
                by_cases hiN : i < N
                · obtain ⟨⟨a, m, c0, L0⟩, hx⟩ : ∃ x, Es[i]? = some x := ⟨_, List.getElem?_eq_getElem (by have := Hl.out; omega)⟩
                  obtain ⟨hm, hr0, h256⟩ := HEs.out _ (List.mem_of_getElem? hx)
                  have htx := HTX.out i _ hx
                  obtain ⟨bb, off, rfl, hbB, hpl⟩ := HR.out.place slCells_len17 (by decide) (by omega)
                  have hc0 := hpl i _ hx 0 _ rfl
                  rw [Addr.add_lit] at hc0
                  simp only [Nat.add_zero, Nat.mul_one] at hc0
                  have hsb := fun W hr => short17_b a m c0 L0 W hr (Nat.le_trans hr0.le hm)
                  have hrt := hr0.fewer8 60
                  obtain ⟨L, gL⟩ : ∃ y, L0.take 60 = y := ⟨_, rfl⟩
                  rw [gL] at hsb hrt htx
                  obtain ⟨y, hy⟩ : ∃ y, GL[i]? = some y := ⟨_, List.getElem?_eq_getElem (by have := HGl.out; omega)⟩
                  obtain ⟨-, -, q3, q4, -⟩ := HPc.out.told i y hy
                  obtain ⟨bv, ov, gAv, hbv, hpv⟩ := (RdS.of_own_slice HPc.out.own.own).place slc_len (by decide) (by omega)
                  have hcy := hpv i y.2.1 (by simp [hy]) 0 _ rfl
                  rw [Addr.add_lit] at hcy
                  simp only [Nat.add_zero, Nat.mul_one] at hcy
                  subst gAv
                  obtain ⟨Y, ⟨ya, yn, yc⟩, yL⟩ := y
                  obtain rfl : yL = L := by have h1 := q3.symm.trans htx; exact Option.some.inj h1
                  obtain rfl : yn = yL.length := q4.len
                  have Hcy := Lib.hid (show wc.cell? ⟨bv, ov + i, none⟩ = some (.slice ya yL.length yc) from hcy)
                  have Hbv := Lib.hid hbv
                  have Hq4 := Lib.hid q4
                  have HBw := Lib.hid HPc.out.own.below
                  have HC0 := Lib.hid hc0
                  have HbB := Lib.hid hbB
                  have Hr0 := Lib.hid hr0
                  have HRt := Lib.hid hrt
                  have HSb := Lib.hid hsb
                  clear hx hm hr0 h256 htx hpl hc0 hsb hrt gL hy q3 q4 hpv hcy hbB hbv
                  have hin : i < n := by omega
                  go_upto_region 25 with fail
                  have KB : ∀ {u v : World}, Kept Nil_ u v → Below u.heap.size u v := fun h => h.below (Nat.le_refl _) (fun _ _ h => h)
                  have HJd : RowKit.Hid (Below wc.heap.size wc wr.drew) := Lib.hid (HJ.out.drew)
                  have HBd : RowKit.Hid (Below w.heap.size w wr.drew) := Lib.hid (bel_bl HBw.out HJd.out)
                  have ldc : ∀ w', Kept Nil_ wr.drew w' → w'.cell? ⟨bb, off + i, none⟩ = some (.slice a m c0) := fun w' hk => hk.nil_cell ((HBd.out.cell (p := ⟨bb, off + i, none⟩) HbB.out).trans HC0.out)
                  have ldy : ∀ w', Kept Nil_ wr.drew w' → w'.cell? ⟨bv, ov + i, none⟩ = some (.slice ya yL.length yc) := fun w' hk => hk.nil_cell ((HJd.out.cell (p := ⟨bv, ov + i, none⟩) Hbv.out).trans Hcy.out)
                  have HQ : RowKit.Hid (∀ w', Kept Nil_ wr.drew w' → Calls Try.prog 29 #[.slice a m c0] w' fun e w'' => e = .returned (.slice a yL.length c0) ∧ Below w'.heap.size w' w'') := Lib.hid (fun w' hk => HSb.out w' ((Hr0.out.up HBd.out HBd.out.size).bl (KB hk)))
                  obtain ⟨T, gT⟩ : ∃ y, txt yL = y := ⟨_, rfl⟩
                  have HT1 : RowKit.Hid (∀ w', Kept Nil_ wr.drew w' → (convert 32 9 (.slice ya yL.length yc)).run Try.prog w' = .ok (.string T) w') := Lib.hid (fun w' hk => gT ▸ conv_txt ((Hq4.out.row.bl HJd.out).bl (KB hk)))
                  have HT2 : RowKit.Hid (∀ w', Kept Nil_ wr.drew w' → (convert 32 9 (.slice a yL.length c0)).run Try.prog w' = .ok (.string T) w') := Lib.hid (fun w' hk => gT ▸ conv_txt ((HRt.out.up HBd.out HBd.out.size).bl (KB hk)))
                  clear gT KB
                  refine wp_region_reg (Nil_) (by kernel_rfl) ?_
                  apply wpR_next 0 (some 113)
                  · simp only [List.getElem?_toArray, List.getElem?_cons_succ, List.getElem?_cons_zero]; exact rfl
                  · rfl
                  · kernel_rfl
                  · kernel_rfl
                  · kernel_rfl
                  · exact fun _ _ _ _ h => h
                  apply Exists.intro
                  apply And.intro
                  · apply yr_run; rfl; intro w' hw'; go_simp; (try with_reducible rfl)
                  simp only [Act.put, List.setIfInBounds_toArray, List.set_cons_zero, List.set_cons_succ]
                  apply wpR_next 1 (some 114)
                  · simp only [List.getElem?_toArray, List.getElem?_cons_succ, List.getElem?_cons_zero]; exact rfl
                  · rfl
                  · kernel_rfl
                  · kernel_rfl
                  · kernel_rfl
                  · exact fun _ _ _ _ h => h
                  apply Exists.intro
                  apply And.intro
                  · apply yr_run; rfl; intro w' hw'; go_simp; (try with_reducible rfl)
                  simp only [Act.put, List.setIfInBounds_toArray, List.set_cons_zero, List.set_cons_succ]
                  apply wpR_next 2 (some 115)
                  · simp only [List.getElem?_toArray, List.getElem?_cons_succ, List.getElem?_cons_zero]; exact rfl
                  · rfl
                  · kernel_rfl
                  · kernel_rfl
                  · kernel_rfl
                  · exact fun _ _ _ _ h => h
                  apply Exists.intro
                  apply And.intro
                  · apply yr_run; rfl; intro w' hw'; go_simp; (try with_reducible rfl)
                  simp only [Act.put, List.setIfInBounds_toArray, List.set_cons_zero, List.set_cons_succ]
                  apply wpR_next 3 (some 116)
                  · simp only [List.getElem?_toArray, List.getElem?_cons_succ, List.getElem?_cons_zero]; exact rfl
                  · rfl
                  · kernel_rfl
                  · kernel_rfl
                  · kernel_rfl
                  · exact fun _ _ _ _ h => h
                  apply Exists.intro
                  apply And.intro
                  · apply yr_run; rfl; intro w' hw'; go_simp; (try with_reducible rfl)
                  simp only [Act.put, List.setIfInBounds_toArray, List.set_cons_zero, List.set_cons_succ]
                  apply wpR_next 4 (some 117)
                  · simp only [List.getElem?_toArray, List.getElem?_cons_succ, List.getElem?_cons_zero]; exact rfl
                  · rfl
                  · kernel_rfl
                  · kernel_rfl
                  · kernel_rfl
                  · exact fun _ _ _ _ h => h
                  apply Exists.intro
                  apply And.intro
                  · exact yr_run (by rfl) (fun w' h => exec_convert 32 9 (.tmp 116) rfl rfl (HT1.out w' h))
                  simp only [Act.put, List.setIfInBounds_toArray, List.set_cons_zero, List.set_cons_succ]
                  apply wpR_next 5 (some 118)
                  · simp only [List.getElem?_toArray, List.getElem?_cons_succ, List.getElem?_cons_zero]; exact rfl
                  · rfl
                  · kernel_rfl
                  · kernel_rfl
                  · kernel_rfl
                  · exact fun _ _ _ _ h => h
                  apply Exists.intro
                  apply And.intro
                  · apply yr_run; rfl; intro w' hw'; go_simp; (try with_reducible rfl)
                  simp only [Act.put, List.setIfInBounds_toArray, List.set_cons_zero, List.set_cons_succ]
                  apply wpR_next 6 (some 119)
                  · simp only [List.getElem?_toArray, List.getElem?_cons_succ, List.getElem?_cons_zero]; exact rfl
                  · rfl
                  · kernel_rfl
                  · kernel_rfl
                  · kernel_rfl
                  · exact fun _ _ _ _ h => h
                  apply Exists.intro
                  apply And.intro
                  · apply yr_run; rfl; intro w' hw'; go_simp; (try with_reducible rfl)
                  simp only [Act.put, List.setIfInBounds_toArray, List.set_cons_zero, List.set_cons_succ]
                  apply wpR_next 7 (some 120)
                  · simp only [List.getElem?_toArray, List.getElem?_cons_succ, List.getElem?_cons_zero]; exact rfl
                  · rfl
                  · kernel_rfl
                  · kernel_rfl
                  · kernel_rfl
                  · exact fun _ _ _ _ h => h
                  apply Exists.intro
                  apply And.intro
                  · apply yr_run; rfl; intro w' hw'; go_simp; (try with_reducible rfl)
                  simp only [Act.put, List.setIfInBounds_toArray, List.set_cons_zero, List.set_cons_succ]
                  apply wpR_next 8 (some 121)
                  · simp only [List.getElem?_toArray, List.getElem?_cons_succ, List.getElem?_cons_zero]; exact rfl
                  · rfl
                  · kernel_rfl
                  · kernel_rfl
                  · kernel_rfl
                  · exact fun _ _ _ _ h => h
                  apply Exists.intro
                  apply And.intro
                  · apply yr_run; rfl; intro w' hw'; go_simp; (try with_reducible rfl)
                  simp only [Act.put, List.setIfInBounds_toArray, List.set_cons_zero, List.set_cons_succ]
                  apply wpR_next 9 (some 122)
                  · simp only [List.getElem?_toArray, List.getElem?_cons_succ, List.getElem?_cons_zero]; exact rfl
                  · rfl
                  · kernel_rfl
                  · kernel_rfl
                  · kernel_rfl
                  · exact fun _ _ _ _ h => h
                  apply Exists.intro
                  apply And.intro
                  · apply yr_call; rfl; rotate_left; intro w' hw'; exact HQ.out w' hw'; intro w'; go_simp
                  simp only [Act.put, List.setIfInBounds_toArray, List.set_cons_zero, List.set_cons_succ]
                  apply wpR_next 10 (some 123)
                  · simp only [List.getElem?_toArray, List.getElem?_cons_succ, List.getElem?_cons_zero]; exact rfl
                  · rfl
                  · kernel_rfl
                  · kernel_rfl
                  · kernel_rfl
                  · exact fun _ _ _ _ h => h
                  apply Exists.intro
                  apply And.intro
                  · exact yr_run (by rfl) (fun w' h => exec_convert 32 9 (.tmp 122) rfl rfl (HT2.out w' h))
                  simp only [Act.put, List.setIfInBounds_toArray, List.set_cons_zero, List.set_cons_succ]
                  apply wpR_next 11 (some 124)
                  · simp only [List.getElem?_toArray, List.getElem?_cons_succ, List.getElem?_cons_zero]; exact rfl
                  · rfl
                  · kernel_rfl
                  · kernel_rfl
                  · kernel_rfl
                  · exact fun _ _ _ _ h => h
                  apply Exists.intro
                  apply And.intro
                  · apply yr_run; rfl; intro w' hw'; go_simp; (try with_reducible rfl)
                  simp only [Act.put, List.setIfInBounds_toArray, List.set_cons_zero, List.set_cons_succ]
                  refine wpR_done (by kernel_rfl) ?_ _
                  intro Wz hwz
                  have HJz : RowKit.Hid (Below wc.heap.size wc Wz) := Lib.hid (HJd.out.trans (hwz.mono HJd.out.size))
                  clear hwz ldc ldy HQ HT1 HT2 HBd HJd
                  go_wp2
                  go_roundw
                  case rel => exact ⟨i + 1, by omega, by go_num, HJz⟩
                  case measure => simp [intOf]; omega
                · go_wp2
                  go_ret
                  exact ⟨rfl, bel_bl HPc.out.own.below HJ.out⟩
end Go.Proofs.Ythfngmlnmpbcpaa
