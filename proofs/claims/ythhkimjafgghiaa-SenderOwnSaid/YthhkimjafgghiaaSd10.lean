/- The law SenderOwn: the first loop. -/
import Derived.Test.YthhkimjafgghiaaSd7
import Derived.Test.YthhkimjafgghiaaSd9
namespace Go.Proofs.Ythhkimjafgghiaa
open Go.RowKit
set_option linter.unusedSimpArgs false
set_option linter.unusedVariables false

/-- The rows as they are pushed. -/
def txts (Es : List Ar) : List (List Nat) := Es.map (fun e => e.2.2.2.take 60)
theorem txts_at {Es : List Ar} {k : Nat} {e : Ar} (h : Es[k]? = some e) : (txts Es)[k]? = some (e.2.2.2.take 60) := by simp [txts, h]
theorem txts_len (Es : List Ar) : (txts Es).length = Es.length := by simp [txts]
/-- An own block of bytes. -/
theorem own_block {w : World} {B n c : Nat} {A : Option Addr} {L : List Nat} (h : w.ownsRow B 5 1 (.slice A n c) n (rowsV f8 L)) (hn : 0 < n) : ∃ ga cu, A = some ⟨ga, 0, none⟩ ∧ B ≤ ga ∧ Whole w ga 5 cu ∧ cu.length = c ∧ n ≤ c := by
  rcases h.2 with ⟨_, h0⟩ | ⟨ga, cap, cur, e1, hb, hg, hle, _, hcs, _⟩
  · omega
  · injection e1 with a1 _ a3
    subst a1 a3
    exact ⟨ga, cur.toList, rfl, hb, by unfold Whole; rw [Array.toArray_toList]; exact hg, by rw [Array.length_toList]; omega, hle⟩
theorem SdIn.off {B : Nat} {w w' : World} {g win ack c : Nat} {Ls : List (List Nat)} {A : Option Addr} {es : List Sl} {k : Option Nat} (h : SdIn B w g win ack Ls A c es k) {b : Nat} (hf : SdFar g A Ls.length es k b) (hk : Kept (fun i => i = b) w w') : SdIn B w' g win ack Ls A c es k :=
  h.beside (v := .slice (some ⟨b, 0, none⟩) 0 0) (fun b' hb => by obtain rfl := Option.some.inj hb; exact hf) (hk.wider (fun i _ e => by rw [e]; rfl))
/-- A round's beginning: k rows were pushed. -/
def OwnIn (w : World) (g k : Nat) (Es : List Ar) (wr : World) : Prop := ∃ A c es q, SdIn w.heap.size wr g 16 0 ((txts Es).take k) A c es q ∧ Below w.heap.size w wr
/-- The row at ga is spoilt. -/
def SpoilIn (ga c : Nat) (V wr : World) : Prop := ∃ cu, Whole wr ga 5 cu ∧ cu.length = c ∧ Kept (fun b => b = ga) V wr
theorem SpoilIn.at_ {ga c k : Nat} {V wr : World} (h : SpoilIn ga c V wr) (hk : k < c) : (∃ v, wr.cell? ⟨ga, k, none⟩ = some v) ∧ wr.frozen? ⟨ga, k, none⟩ = false ∧ ∀ u, SpoilIn ga c V (wr.setCell ⟨ga, k, none⟩ u) := by
  obtain ⟨cu, h1, h2, h3⟩ := h
  exact ⟨⟨_, h1.cell (List.getElem?_eq_getElem (by omega))⟩, h1.free k, fun u => ⟨_, h1.set_ k u, by rw [List.length_set]; exact h2, h3.setCell (.inl rfl) _⟩⟩
theorem SdIn.off2 {B : Nat} {w w' : World} {g win ack c : Nat} {Ls : List (List Nat)} {A : Option Addr} {es : List Sl} {k : Option Nat} (h : SdIn B w g win ack Ls A c es k) {b : Nat} {k2 : Option Nat} (hf : SdFar g A Ls.length es k b) (hf2 : ∀ b, k2 = some b → SdFar g A Ls.length es k b) (hk : Kept (fun i => i = b ∨ some i = k2) w w') : SdIn B w' g win ack Ls A c es k := by
  refine h.keep hk (fun e => ?_) (fun a ha hn e => ?_) (fun b' hb e => ?_) (fun i L a m hL he hn e => ?_)
  · rcases e with e | e
    · exact hf.g_ e.symm
    · exact (hf2 g e.symm).g_ rfl
  · rcases e with e | e
    · exact hf.row a ha hn e
    · exact (hf2 _ e.symm).row a ha hn rfl
  · rcases e with e | e
    · exact hf.k_ (by rw [← e]; exact hb.symm)
    · exact (hf2 b' e.symm).k_ hb.symm
  · rcases e with e | e
    · exact hf.each i a _ m he hn e
    · exact (hf2 _ e.symm).each i a _ m he hn rfl
/-- A sender, and a copy of it that went its own way. -/
structure TwoIn (w wr : World) (g gc M D : Nat) (TX LC : List (List Nat)) (As Ac : Option Addr) (cs cc : Nat) (es ec : List Sl) (q qc : Option Nat) : Prop where
  s : SdIn w.heap.size wr g 16 0 TX As cs es q
  c : SdIn w.heap.size wr gc 16 M LC Ac cc ec qc
  d : D ≤ LC.length
  l : LC.length ≤ 17
  below : Below w.heap.size w wr
theorem TwoIn.down {w wr W : World} {g gc M D : Nat} {TX LC : List (List Nat)} {As Ac : Option Addr} {cs cc : Nat} {es ec : List Sl} {q qc : Option Nat} (h : TwoIn w wr g gc M D TX LC As Ac cs cc es ec q qc) (hb : Below wr.heap.size wr W) : TwoIn w W g gc M D TX LC As Ac cs cc es ec q qc :=
  ⟨h.s.below hb, h.c.below hb, h.d, h.l, bel_bl h.below hb⟩
theorem TwoIn.off {w wr W0 W : World} {g gc M D : Nat} {TX LC : List (List Nat)} {As Ac : Option Addr} {cs cc : Nat} {es ec : List Sl} {q qc : Option Nat} (h0 : TwoIn w W0 g gc M D TX LC As Ac cs cc es ec q qc) (h : TwoIn w wr g gc M D TX LC As Ac cs cc es ec q qc) {b : Nat} (hb : W0.heap.size ≤ b) (hk : Kept (fun i => i = b) wr W) : TwoIn w W g gc M D TX LC As Ac cs cc es ec q qc :=
  ⟨h.s.off (h0.s.fresh hb) hk, h.c.off (h0.c.fresh hb) hk, h.d, h.l, h.below.trans (hk.below h.below.size (fun i hi e => by have h1 : i = b := e; have h2 := h0.below.size; omega))⟩
/-- Body of the copy: there just if it was not acknowledged. -/
theorem body_two {w wr : World} {g gc M D N : Nat} {TX LC : List (List Nat)} {As Ac : Option Addr} {cs cc : Nat} {es ec : List Sl} {q qc : Option Nat} (h : TwoIn w wr g gc M D TX LC As Ac cs cc es ec q qc) (hN : N ≤ 16) (hD : D + M = N) {i : Nat} (hi : i < N) :
    Calls Try.prog 19 #[.pointer (some ⟨gc, 0, none⟩), .int .i64 ((i : Int) + 1)] wr fun e w' => ∃ A' n' c', e = .returned (.tuple #[.slice A' n' c', .bool (decide (M ≤ i))]) ∧ Below wr.heap.size wr w' := by
  have hl := h.l
  have hd := h.d
  by_cases hm : M ≤ i
  · rw [decide_eq_true hm]
    obtain ⟨L, hL⟩ : ∃ L, LC[i - M]? = some L := ⟨_, List.getElem?_eq_getElem (by omega)⟩
    exact (body_yes wr h.c (by omega) (by omega) ((i : Int) + 1) (i - M) L hL (by omega)).mono fun e w' ⟨A', c', h1, _, _, _, h2⟩ => ⟨A', _, c', h1, h2⟩
  · rw [decide_eq_false hm]
    exact (body_lo wr h.c (by omega) (by omega) ((i : Int) + 1) (by omega)).mono fun e w' ⟨h1, h2⟩ => ⟨none, 0, 0, h1, h2⟩
set_option maxRecDepth 100000 in
set_option maxHeartbeats 8000000 in
theorem law_own (A : Option Addr) (n c : Nat) (Es : List Ar) (y : Int) (w : World) (h : RdS w w.heap.size 1 A n c (rowsV slCells Es)) (he : ∀ e ∈ Es, ArOk w e) (hn : n ≤ maxLen) :
    Calls Try.prog 6 #[.slice A n c, .int .i64 y] w fun e w' => e = .returned (.bool true) ∧ Below w.heap.size w w' := by
  have hl := h.rlen slCells_len (by decide)
  unfold maxLen at hn
  obtain ⟨N, gN⟩ : ∃ N : Nat, min (n : Int) 16 = (N : Int) := ⟨(min (n : Int) 16).toNat, by omega⟩
  have hN1 : N ≤ n := by omega
  have hN2 : N ≤ 16 := by omega
  obtain ⟨M, gM⟩ : ∃ M : Nat, min (max y 0) (N : Int) = (M : Int) := ⟨(min (max y 0) (N : Int)).toNat, by omega⟩
  have hM : M ≤ N := by omega
  have HR := Lib.hid h
  have HE := Lib.hid he
  have Hl := Lib.hid hl
  have GM := Lib.hid gM
  obtain ⟨i0, hi, hz0, hz1, hz2⟩ := info_parts_ info_u8
  clear h he hl gM
  go_enter Try.func6, Try.ntmps6
  go_wp2_with fail
  refine (shown16 _).mono ?_
  rintro e w1 ⟨rfl, hb1⟩
  have HB1 := Lib.hid hb1
  clear hb1
  go_wp2_with fail
  refine (new_any 16 w1).mono ?_
  rintro e w2 ⟨g, win, rfl, hwin, hS, hb2⟩
  obtain rfl : win = 16 := by
    have : min (max (16 : Int) 1) 64 = 16 := by decide
    omega
  have HA0 : RowKit.Hid (OwnIn w g 0 Es w2) := Lib.hid ⟨none, 0, [], none, ⟨hS.box, Nat.le_trans HB1.out.size hS.lo, hS.row, .inl ⟨rfl, World.ownsRow_nil _ _ _ _⟩, hS.rne, hS.kne, hS.each⟩, bel_bl HB1.out hb2⟩
  clear hwin hS hb2 HB1
  go_wp2
  clear gN
  go_loopw [8] (fun si wr => ∃ k : Nat, k ≤ N ∧ si = .int .i64 k ∧ RowKit.Hid (OwnIn w g k Es wr)) (fun si _ => N - (intOf si).toNat)
  case atStart => exact ⟨0, by omega, rfl, HA0⟩
  case round =>
    rename_i wr _
    clear HA0
    obtain ⟨k, hk, rfl, HA⟩ := hrel
    by_cases hkN : k < N
    · obtain ⟨As, cs, es, q, hS, hB⟩ := HA.out
      obtain ⟨⟨a, m, c0, L0⟩, hx⟩ : ∃ x, Es[k]? = some x := ⟨_, List.getElem?_eq_getElem (by have := Hl.out; omega)⟩
      have htx := txts_at hx
      obtain ⟨hm, hr0, h256⟩ := HE.out _ (List.mem_of_getElem? hx)
      obtain ⟨bb, off, hA, hbB, hpl⟩ := HR.out.place slCells_len (by decide) (by omega)
      have hc0 := hpl k _ hx 0 _ rfl
      rw [Addr.add_lit] at hc0
      simp only [Nat.add_zero, Nat.mul_one] at hc0
      subst hA
      have HS := Lib.hid hS
      have HB := Lib.hid hB
      have hs := fun W hr => short_any a m c0 L0 W hr (Nat.le_trans hr0.le hm)
      have hrt := hr0.fewer8 60
      have hb6 : ∀ b ∈ L0.take 60, b < 256 := fun b hb => h256 b (List.mem_of_mem_take hb)
      have h60 : (L0.take 60).length ≤ 60 := by rw [List.length_take]; omega
      have htx2 : (txts Es)[k]? = some (L0.take 60) := htx
      obtain ⟨L, gL⟩ : ∃ y, L0.take 60 = y := ⟨_, rfl⟩
      rw [gL] at hs hrt hb6 h60 htx2
      have HSh := Lib.hid hs
      have HRt := Lib.hid hrt
      have Hb6 := Lib.hid hb6
      have Hr0 := Lib.hid hr0
      have HTk : RowKit.Hid ((txts Es).take (k + 1) = (txts Es).take k ++ [L]) := Lib.hid (take_snoc_ _ _ _ htx2)
      have lc := (bel_al hB (.cells #[] 5)).cell (p := ⟨bb, off + k, none⟩) hbB
      rw [hc0] at lc
      have htl : ((txts Es).take k).length = k := by rw [List.length_take, txts_len]; have := Hl.out; omega
      have HTl := Lib.hid htl
      clear hS hB hx hm hr0 h256 hpl hc0 hs hrt hb6 gL hbB HA htx htx2 htl
      have hkn : k < n := by omega
      go_upto_region 9 with fail
      have HRa := Lib.hid (Hr0.out.up (bel_al HB.out (.cells #[] 5)) (bel_al HB.out (.cells #[] 5)).size)
      have HRb := Lib.hid (HRt.out.up (bel_al HB.out (.cells #[] 5)) (bel_al HB.out (.cells #[] 5)).size)
      go_upto_region 10 with (first
        | (go_at_call 13
           refine (HSh.out _ HRa.out).mono ?_
           rintro e w3 ⟨rfl, rfl⟩)
        | (at_builtin
           refine wpList_push2 rfl (.tmp 37) (.tmp 42) _ rfl _ 5 i0 _ 1 1 Try.underlying32 hi hz0 hz1 hz2 rfl (by decide) _ _ _ rfl (Ow.new_ (cs := #[]) (Below.refl _ _) (Nat.le_refl _) (Nat.le_refl _) (Nat.zero_le _) rfl) _ _ _ _ _ rfl HRb.out (f8_all _) (by unfold maxLen; omega) (by omega) ?_
           intro v1 w4 how1 hb4 hgr
           rw [Nat.zero_add, List.nil_append] at how1
           obtain ⟨Ap, cp, rfl, hr4⟩ := how1.rds
           have HOW := Lib.hid how1
           have HRp := Lib.hid hr4
           clear how1 hb4 hgr hr4))
      have hS4 := HS.out.below HOW.out.below
      have HB4 : RowKit.Hid (Below w.heap.size w w4) := Lib.hid (bel_bl HB.out HOW.out.below)
      have hP := push_yes w4 hS4 (by omega) (by rw [HTl.out]; omega) Ap cp L HRp.out Hb6.out h60 (by rw [HTl.out]; omega) HB4.out.size
      have HP : RowKit.Hid (Calls Try.prog 11 #[.pointer (some ⟨g, 0, none⟩), .slice Ap L.length cp] w4 fun e w' => ∃ v, e = .returned v ∧ OwnIn w g (k + 1) Es w' ∧ (0 < L.length → ∃ ga, Ap = some ⟨ga, 0, none⟩ ∧ w.heap.size ≤ ga ∧ L.length ≤ cp ∧ SpoilIn ga cp w' w' ∧ ∀ W, SpoilIn ga cp w' W → OwnIn w g (k + 1) Es W)) := Lib.hid (hP.mono fun e w' ⟨h1, A', c', es', k', h2, h3, h4, h5, Ac, cc, h6, h7⟩ => by
        have hB5 := HB4.out.trans (hS4.far h3 HB4.out.size)
        rw [← HTk.out] at h2
        refine ⟨_, h1, ⟨A', c', es', k', h2, hB5⟩, fun h0 => ?_⟩
        obtain ⟨ga, cu, e1, hga, hW, hcl, hle⟩ := own_block HOW.out.own h0
        subst e1
        have hgl := hW.lt
        have hf4 : SdFar g As ((txts Es).take k).length es q ga := HS.out.fresh hga
        subst h6
        have hf5 : SdFar g A' ((txts Es).take (k + 1)).length (es ++ [(Ac, L.length, cc)]) k' ga := hf4.push hgl h4 h5 h7
        have hW5 : Whole w' ga 5 cu := h3.whole hW (fun e => by rcases e with e | e; exact hf4.g_ e; exact hf4.k_ e)
        have hwB : w.heap.size ≤ ga := Nat.le_trans HB.out.size hga
        exact ⟨ga, rfl, hwB, hle, ⟨cu, hW5, hcl, Kept.refl _ _⟩, fun W ⟨_, _, _, hkW⟩ => ⟨A', c', _, k', h2.off hf5 hkW, hB5.trans (hkW.below hB5.size (fun i hi e => by have h9 : i = ga := e; omega))⟩⟩)
      clear hP hS4 HOW HRa HRb HRp lc HSh HTk HTl HS HB HB4
      go_wp2_with fail
      refine HP.out.mono ?_
      rintro e w5 ⟨vv, rfl, hO, hW⟩
      have HO := Lib.hid hO
      have HW := Lib.hid hW
      clear hO hW HP
      by_cases h0 : 0 < L.length
      · obtain ⟨ga, gAp, hga, hle, hsp, hall⟩ := HW.out h0
        subst gAp
        have HSp := Lib.hid hsp
        have HAl := Lib.hid hall
        clear hsp hall HW HO
        obtain ⟨nL, gnL⟩ : ∃ z, L.length = z := ⟨_, rfl⟩
        rw [gnL] at hle h60 ⊢
        clear gnL h0
        go_wp2
        go_loopw [10] (fun sj wr2 => ∃ j : Nat, j ≤ nL ∧ sj = .int .i64 j ∧ RowKit.Hid (SpoilIn ga cp w5 wr2)) (fun sj _ => nL - (intOf sj).toNat)
        case atStart => exact ⟨0, by omega, rfl, HSp⟩
        case round =>
          clear HSp
          obtain ⟨j, hj, rfl, HI⟩ := hrel
          by_cases hjn : j < nL
          · obtain ⟨⟨v0, hv0⟩, hf0, hst⟩ := HI.out.at_ (show j < cp by omega)
            have HSt := Lib.hid hst
            clear hst
            go_wp2
            go_roundw
            case rel => exact ⟨j + 1, by omega, by go_num, Lib.hid (HSt.out _)⟩
            case measure => simp [intOf]; omega
          · obtain rfl : j = nL := by omega
            have HF := Lib.hid (HAl.out _ HI.out)
            clear HI HAl
            go_wp2
            go_roundw
            case rel => exact ⟨k + 1, by omega, by go_num, HF⟩
            case measure => simp [intOf]; omega
      · obtain ⟨nL, gnL⟩ : ∃ z, L.length = z := ⟨_, rfl⟩
        rw [gnL] at h0 ⊢
        clear gnL HW
        obtain rfl : nL = 0 := by omega
        clear h0
        go_wp2
        go_loopw [10] (fun sj wr2 => sj = .int .i64 0 ∧ wr2 = w5) (fun sj _ => 0)
        case atStart => exact ⟨rfl, rfl⟩
        case round =>
          obtain ⟨rfl, rfl⟩ := hrel
          go_wp2
          go_roundw
          case rel => exact ⟨k + 1, by omega, by go_num, HO⟩
          case measure => simp [intOf]; omega
    · have ekN : k = N := by omega
      have HA2 : RowKit.Hid (OwnIn w g N Es wr) := Lib.hid (by rw [← ekN]; exact HA.out)
      clear ekN
      have hkn : ¬ k < N := hkN
      obtain ⟨As, cs, es, q, hS, hB⟩ := HA2.out
      obtain ⟨TX, gTX⟩ : ∃ z, (txts Es).take N = z := ⟨_, rfl⟩
      have hTl : TX.length = N := by rw [← gTX, List.length_take, txts_len]; have := Hl.out; omega
      rw [gTX] at hS
      have HTx : RowKit.Hid (∀ (i : Nat) (e : Ar), i < N → Es[i]? = some e → TX[i]? = some (e.2.2.2.take 60)) := Lib.hid (fun i e hi he => by rw [← gTX, List.getElem?_take, if_pos hi]; exact txts_at he)
      have HS := Lib.hid hS
      have HB := Lib.hid hB
      have HTl := Lib.hid hTl
      have HCl := Lib.hid (clone_sd wr hS hB.size)
      clear HA HA2 hS hB gTX hTl
      obtain ⟨D, gD⟩ : ∃ D, N - M = D := ⟨_, rfl⟩
      have hDM : D + M = N := by omega
      have HDM := Lib.hid hDM
      have hsub : (N : Int) - (M : Int) = (D : Int) := by omega
      have hwD : IntKind.i64.wrap (D : Int) = (D : Int) := IntWalk.i64_in _ (by omega)
      clear gD hDM
      have gm := GM.out
      go_wp2_with fail
      refine HCl.out.mono ?_
      rintro e w3 ⟨gc, rfl, hgc, hC, hb3⟩
      have HF3 := Lib.hid (HS.out.fresh hgc)
      have HS3 := Lib.hid (HS.out.below hb3)
      have HC3 := Lib.hid hC
      have HB3 : RowKit.Hid (Below w.heap.size w w3) := Lib.hid (bel_bl HB.out hb3)
      clear hgc hC hb3 HCl HS HB
      have hA := ack_yes w3 HC3.out (by omega) (by rw [HTl.out]; omega) M (by rw [HTl.out]; exact hM)
      rw [show ((0 : Nat) : Int) + (M : Int) = (M : Int) from by omega, Nat.zero_add] at hA
      have HAk := Lib.hid hA
      clear hA
      go_wp2_with fail
      refine HAk.out.mono ?_
      rintro e w4 ⟨rfl, A4, c4, es4, k4, hC4, hk4, hk5, -, -⟩
      have HS4 := Lib.hid (HS3.out.off HF3.out hk4)
      have HC4 := Lib.hid hC4
      have HB4 : RowKit.Hid (Below w.heap.size w w4) := Lib.hid (HB3.out.trans (HC3.out.far1 hk4 HB3.out.size))
      have HFk : RowKit.Hid (∀ b, k4 = some b → SdFar g As TX.length es q b) := Lib.hid (fun b hb => by
        rcases hk5 with e | ⟨b', e, hle⟩
        · rw [e] at hb; cases hb
        · obtain rfl := Option.some.inj (hb.symm.trans e); exact HS3.out.fresh hle)
      have hLd : (TX.drop M).length = D := by rw [List.length_drop, HTl.out]; have := HDM.out; omega
      have HLd := Lib.hid hLd
      clear hC4 hk4 hk5 HAk HS3 HC3 HB3 hLd
      have hD1 := due_any w4 HC4.out (by omega) (by rw [HLd.out]; have := HDM.out; omega)
      rw [HLd.out] at hD1
      have HD1 := Lib.hid hD1
      clear hD1
      go_wp2_with fail
      refine HD1.out.mono ?_
      rintro e w5 ⟨gd1, rfl, -, -, hb5⟩
      have HS5 := Lib.hid (HS4.out.below hb5)
      have HC5 := Lib.hid (HC4.out.below hb5)
      have HB5 : RowKit.Hid (Below w.heap.size w w5) := Lib.hid (bel_bl HB4.out hb5)
      clear hb5 HD1 HS4 HC4 HB4
      have hD2 := due_any w5 HS5.out (by omega) (by rw [HTl.out]; omega)
      rw [HTl.out] at hD2
      have HD2 := Lib.hid hD2
      clear hD2
      go_wp2_with fail
      refine HD2.out.mono ?_
      rintro e w6 ⟨gd2, rfl, -, -, hb6⟩
      have HS6 := Lib.hid (HS5.out.below hb6)
      have HC6 := Lib.hid (HC5.out.below hb6)
      have HB6 : RowKit.Hid (Below w.heap.size w w6) := Lib.hid (bel_bl HB5.out hb6)
      clear hb6 HD2 HS5 HC5 HB5
      have hcv := Lib.run_convert_bytes_const (P := Try.prog) w6 32 5 #[.int .u8 111, .int .u8 116, .int .u8 104, .int .u8 101, .int .u8 114] 5 5 Try.underlying32 Try.underlying5
      have hR : RdS (w6.alloc (.cells #[.int .u8 111, .int .u8 116, .int .u8 104, .int .u8 101, .int .u8 114] 5 (5, 6))) (w6.alloc (.cells #[.int .u8 111, .int .u8 116, .int .u8 104, .int .u8 101, .int .u8 114] 5 (5, 6))).heap.size 1 (some ⟨w6.heap.size, 0, none⟩) 5 5 (rowsV f8 [111, 116, 104, 101, 114]) := RdS.of_marked w6 (5, 6) rfl
      have HP : RowKit.Hid (Calls Try.prog 11 #[.pointer (some ⟨gc, 0, none⟩), .slice (some ⟨w6.heap.size, 0, none⟩) 5 5] (w6.alloc (.cells #[.int .u8 111, .int .u8 116, .int .u8 104, .int .u8 101, .int .u8 114] 5 (5, 6))) fun e w' => ∃ v LC A' c' es' k', e = .returned v ∧ TwoIn w w' g gc M D TX LC As A' cs c' es es' q k') := Lib.hid (by
        have hS' := HS6.out.below (below1 w6 (.cells #[.int .u8 111, .int .u8 116, .int .u8 104, .int .u8 101, .int .u8 114] 5 (5, 6)))
        have hC' := HC6.out.below (below1 w6 (.cells #[.int .u8 111, .int .u8 116, .int .u8 104, .int .u8 101, .int .u8 114] 5 (5, 6)))
        have hB' := bel_al HB6.out (.cells #[.int .u8 111, .int .u8 116, .int .u8 104, .int .u8 101, .int .u8 114] 5 (5, 6))
        by_cases hf : 16 ≤ (TX.drop M).length
        · refine (push_full _ hC' (by omega) (by rw [HLd.out]; have := HDM.out; omega) _ 5 5 hf).mono ?_
          rintro e w' ⟨h1, h2⟩
          exact ⟨_, TX.drop M, _, _, _, _, h1, hS'.below h2, hC'.below h2, by rw [HLd.out]; exact Nat.le_refl _, by rw [HLd.out]; have := HDM.out; omega, bel_bl hB' h2⟩
        · refine (push_yes _ hC' (by omega) (by omega) (some ⟨w6.heap.size, 0, none⟩) 5 [111, 116, 104, 101, 114] hR (by decide) (by decide) (by omega) hB'.size).mono ?_
          rintro e w' ⟨h1, A', c', es', k', h2, h3, -⟩
          exact ⟨_, _, _, _, _, _, h1, hS'.off2 HF3.out HFk.out h3, h2, by rw [List.length_append, HLd.out]; exact Nat.le_add_right _ _, by rw [List.length_append, HLd.out]; have := HDM.out; show D + 1 ≤ 17; omega, hB'.trans (hC'.far h3 hB'.size)⟩)
      clear hR HS6 HC6 HB6
      go_wp2_with fail
      refine HP.out.mono ?_
      rintro e w7 ⟨vv, LC, A7, c7, es7, k7, rfl, hT7⟩
      have HT7 := Lib.hid hT7
      clear hT7 HP hcv HF3 HFk hsub hwD gm GM
      go_wp2
      go_loopw [13] (fun si wr => ∃ i : Nat, i ≤ N ∧ si = .int .i64 i ∧ RowKit.Hid (TwoIn w wr g gc M D TX LC As A7 cs c7 es es7 q k7)) (fun si _ => N - (intOf si).toNat)
      case atStart => exact ⟨0, by omega, rfl, HT7⟩
      case round =>
        clear HT7
        obtain ⟨i, hi', rfl, HI⟩ := hrel
        by_cases hiN : i < N
        · have hin : i < n := by omega
          obtain ⟨⟨a, m, c0, L0⟩, hx⟩ : ∃ x, Es[i]? = some x := ⟨_, List.getElem?_eq_getElem (by have := Hl.out; omega)⟩
          have htx : TX[i]? = some (L0.take 60) := HTx.out i _ hiN hx
          obtain ⟨hm, hr0, h256⟩ := HE.out _ (List.mem_of_getElem? hx)
          obtain ⟨bb, off, hA, hbB, hpl⟩ := HR.out.place slCells_len (by decide) (by omega)
          have hc0 := hpl i _ hx 0 _ rfl
          rw [Addr.add_lit] at hc0
          simp only [Nat.add_zero, Nat.mul_one] at hc0
          subst hA
          have HC0 := Lib.hid hc0
          have hsb := fun W hr => short_b a m c0 L0 W hr (Nat.le_trans hr0.le hm)
          have hrt := hr0.fewer8 60
          have Hl60 : (L0.take 60).length ≤ 60 := by rw [List.length_take]; omega
          obtain ⟨L, gL⟩ : ∃ y, L0.take 60 = y := ⟨_, rfl⟩
          rw [gL] at hsb hrt htx Hl60
          have HSb := Lib.hid hsb
          have HRt := Lib.hid hrt
          have Hr0 := Lib.hid hr0
          have Hbb := Lib.hid hbB
          have Htx := Lib.hid htx
          obtain ⟨wo, gwo⟩ : ∃ z, wr = z := ⟨_, rfl⟩
          rw [gwo] at HI ⊢
          clear gwo
          have HBo := Lib.hid (body_yes wo HI.out.s (by omega) (by rw [HTl.out]; omega) ((i : Int) + 1) i L htx (by omega))
          clear hx htx hm hr0 h256 hpl hc0 hsb hrt gL hbB
          go_wp2_with fail
          refine HBo.out.mono ?_
          rintro e w8 ⟨Ab, cb, rfl, hrb, -, hob, hb8⟩
          have HI8 := Lib.hid (HI.out.down hb8)
          have HRb := Lib.hid hrb
          have HOb := Lib.hid hob
          clear hrb hob hb8 HBo
          have hB2 := body_two HI8.out hN2 HDM.out hiN
          obtain ⟨bm, gbm⟩ : ∃ z, decide (M ≤ i) = z := ⟨_, rfl⟩
          rw [gbm] at hB2
          have HB2 := Lib.hid hB2
          clear hB2
          go_wp2_with fail
          refine HB2.out.mono ?_
          rintro e w9 ⟨Ax, nx, cx, rfl, hb9⟩
          have HI9 := Lib.hid (HI8.out.down hb9)
          have HRb9 := Lib.hid (HRb.out.bl hb9)
          have HOb9 := Lib.hid (own_up HOb.out hb9)
          clear hb9 HB2 HRb HOb HI8
          go_upto_region 27 with fail
          have KB : ∀ {u v : World}, Kept Nil_ u v → Below u.heap.size u v := fun h => h.below (Nat.le_refl _) (fun _ _ h => h)
          have HBd := Lib.hid (bel_dr HI9.out.below)
          have ldc : ∀ w', Kept Nil_ w9.drew w' → w'.cell? ⟨bb, off + i, none⟩ = some (.slice a m c0) := fun w' hk => hk.nil_cell ((HBd.out.cell (p := ⟨bb, off + i, none⟩) Hbb.out).trans HC0.out)
          have HQ : RowKit.Hid (∀ w', Kept Nil_ w9.drew w' → Calls Try.prog 13 #[.slice a m c0] w' fun e w'' => e = .returned (.slice a L.length c0) ∧ Below w'.heap.size w' w'') := Lib.hid (fun w' hk => HSb.out w' ((Hr0.out.up HBd.out HBd.out.size).bl (KB hk)))
          obtain ⟨T, gT⟩ : ∃ y, txt L = y := ⟨_, rfl⟩
          have HT1 : RowKit.Hid (∀ w', Kept Nil_ w9.drew w' → (convert 32 9 (.slice Ab L.length cb)).run Try.prog w' = .ok (.string T) w') := Lib.hid (fun w' hk => gT ▸ conv_txt (HRb9.out.dr.bl (KB hk)))
          have HT2 : RowKit.Hid (∀ w', Kept Nil_ w9.drew w' → (convert 32 9 (.slice a L.length c0)).run Try.prog w' = .ok (.string T) w') := Lib.hid (fun w' hk => gT ▸ conv_txt ((HRt.out.up HBd.out HBd.out.size).bl (KB hk)))
          have HgT := Lib.hid gT
          clear gT KB
          refine wp_region_reg (Nil_) (by kernel_rfl) ?_
          apply wpR_next 0 (some 107)
          · simp only [List.getElem?_toArray, List.getElem?_cons_succ, List.getElem?_cons_zero]; exact rfl
          · rfl
          · kernel_rfl
          · kernel_rfl
          · kernel_rfl
          · exact fun _ _ _ _ h => h
          apply Exists.intro
          apply And.intro
          · apply yr_run; rfl; intro w' hw'; go_simp; (try with_reducible rfl)
          simp only [Act.put, List.setIfInBounds_toArray, List.set_cons_zero, List.set_cons_succ]
          apply wpR_next 1 (some 108)
          · simp only [List.getElem?_toArray, List.getElem?_cons_succ, List.getElem?_cons_zero]; exact rfl
          · rfl
          · kernel_rfl
          · kernel_rfl
          · kernel_rfl
          · exact fun _ _ _ _ h => h
          apply Exists.intro
          apply And.intro
          · apply yr_run; rfl; intro w' hw'; go_simp; (try with_reducible rfl)
          simp only [Act.put, List.setIfInBounds_toArray, List.set_cons_zero, List.set_cons_succ]
          apply wpR_next 2 (some 109)
          · simp only [List.getElem?_toArray, List.getElem?_cons_succ, List.getElem?_cons_zero]; exact rfl
          · rfl
          · kernel_rfl
          · kernel_rfl
          · kernel_rfl
          · exact fun _ _ _ _ h => h
          apply Exists.intro
          apply And.intro
          · apply yr_run; rfl; intro w' hw'; go_simp; (try with_reducible rfl)
          simp only [Act.put, List.setIfInBounds_toArray, List.set_cons_zero, List.set_cons_succ]
          apply wpR_next 3 (some 110)
          · simp only [List.getElem?_toArray, List.getElem?_cons_succ, List.getElem?_cons_zero]; exact rfl
          · rfl
          · kernel_rfl
          · kernel_rfl
          · kernel_rfl
          · exact fun _ _ _ _ h => h
          apply Exists.intro
          apply And.intro
          · apply yr_run; rfl; intro w' hw'; go_simp; (try with_reducible rfl)
          simp only [Act.put, List.setIfInBounds_toArray, List.set_cons_zero, List.set_cons_succ]
          apply wpR_next 4 (some 111)
          · simp only [List.getElem?_toArray, List.getElem?_cons_succ, List.getElem?_cons_zero]; exact rfl
          · rfl
          · kernel_rfl
          · kernel_rfl
          · kernel_rfl
          · exact fun _ _ _ _ h => h
          apply Exists.intro
          apply And.intro
          · exact yr_run (by rfl) (fun w' h => exec_convert 32 9 (.tmp 110) rfl rfl (HT1.out w' h))
          simp only [Act.put, List.setIfInBounds_toArray, List.set_cons_zero, List.set_cons_succ]
          apply wpR_next 5 (some 112)
          · simp only [List.getElem?_toArray, List.getElem?_cons_succ, List.getElem?_cons_zero]; exact rfl
          · rfl
          · kernel_rfl
          · kernel_rfl
          · kernel_rfl
          · exact fun _ _ _ _ h => h
          apply Exists.intro
          apply And.intro
          · apply yr_run; rfl; intro w' hw'; go_simp; (try with_reducible rfl)
          simp only [Act.put, List.setIfInBounds_toArray, List.set_cons_zero, List.set_cons_succ]
          apply wpR_next 6 (some 113)
          · simp only [List.getElem?_toArray, List.getElem?_cons_succ, List.getElem?_cons_zero]; exact rfl
          · rfl
          · kernel_rfl
          · kernel_rfl
          · kernel_rfl
          · exact fun _ _ _ _ h => h
          apply Exists.intro
          apply And.intro
          · apply yr_run; rfl; intro w' hw'; go_simp; (try with_reducible rfl)
          simp only [Act.put, List.setIfInBounds_toArray, List.set_cons_zero, List.set_cons_succ]
          apply wpR_next 7 (some 114)
          · simp only [List.getElem?_toArray, List.getElem?_cons_succ, List.getElem?_cons_zero]; exact rfl
          · rfl
          · kernel_rfl
          · kernel_rfl
          · kernel_rfl
          · exact fun _ _ _ _ h => h
          apply Exists.intro
          apply And.intro
          · apply yr_run; rfl; intro w' hw'; go_simp; (try with_reducible rfl)
          simp only [Act.put, List.setIfInBounds_toArray, List.set_cons_zero, List.set_cons_succ]
          apply wpR_next 8 (some 115)
          · simp only [List.getElem?_toArray, List.getElem?_cons_succ, List.getElem?_cons_zero]; exact rfl
          · rfl
          · kernel_rfl
          · kernel_rfl
          · kernel_rfl
          · exact fun _ _ _ _ h => h
          apply Exists.intro
          apply And.intro
          · apply yr_run; rfl; intro w' hw'; go_simp; (try with_reducible rfl)
          simp only [Act.put, List.setIfInBounds_toArray, List.set_cons_zero, List.set_cons_succ]
          apply wpR_next 9 (some 116)
          · simp only [List.getElem?_toArray, List.getElem?_cons_succ, List.getElem?_cons_zero]; exact rfl
          · rfl
          · kernel_rfl
          · kernel_rfl
          · kernel_rfl
          · exact fun _ _ _ _ h => h
          apply Exists.intro
          apply And.intro
          · apply yr_call; rfl; rotate_left; intro w' hw'; exact HQ.out w' hw'; intro w'; go_simp
          simp only [Act.put, List.setIfInBounds_toArray, List.set_cons_zero, List.set_cons_succ]
          apply wpR_next 10 (some 117)
          · simp only [List.getElem?_toArray, List.getElem?_cons_succ, List.getElem?_cons_zero]; exact rfl
          · rfl
          · kernel_rfl
          · kernel_rfl
          · kernel_rfl
          · exact fun _ _ _ _ h => h
          apply Exists.intro
          apply And.intro
          · exact yr_run (by rfl) (fun w' h => exec_convert 32 9 (.tmp 116) rfl rfl (HT2.out w' h))
          simp only [Act.put, List.setIfInBounds_toArray, List.set_cons_zero, List.set_cons_succ]
          apply wpR_next 11 (some 118)
          · simp only [List.getElem?_toArray, List.getElem?_cons_succ, List.getElem?_cons_zero]; exact rfl
          · rfl
          · kernel_rfl
          · kernel_rfl
          · kernel_rfl
          · exact fun _ _ _ _ h => h
          apply Exists.intro
          apply And.intro
          · apply yr_run; rfl; intro w' hw'; go_simp; (try with_reducible rfl)
          simp only [Act.put, List.setIfInBounds_toArray, List.set_cons_zero, List.set_cons_succ]
          apply wpR_next 12 (some 119)
          · simp only [List.getElem?_toArray, List.getElem?_cons_succ, List.getElem?_cons_zero]; exact rfl
          · rfl
          · kernel_rfl
          · kernel_rfl
          · kernel_rfl
          · exact fun _ _ _ _ h => h
          apply Exists.intro
          apply And.intro
          · apply yr_run; rfl; intro w' hw'; go_simp; (try with_reducible rfl)
          simp only [Act.put, List.setIfInBounds_toArray, List.set_cons_zero, List.set_cons_succ]
          apply wpR_next 13 (some 120)
          · simp only [List.getElem?_toArray, List.getElem?_cons_succ, List.getElem?_cons_zero]; exact rfl
          · rfl
          · kernel_rfl
          · kernel_rfl
          · kernel_rfl
          · exact fun _ _ _ _ h => h
          apply Exists.intro
          apply And.intro
          · apply yr_run; rfl; intro w' hw'; go_simp; (try with_reducible rfl)
          simp only [Act.put, List.setIfInBounds_toArray, List.set_cons_zero, List.set_cons_succ]
          apply wpR_next 14 (some 121)
          · simp only [List.getElem?_toArray, List.getElem?_cons_succ, List.getElem?_cons_zero]; exact rfl
          · rfl
          · kernel_rfl
          · kernel_rfl
          · kernel_rfl
          · exact fun _ _ _ _ h => h
          apply Exists.intro
          apply And.intro
          · apply yr_run; rfl; intro w' hw'; go_simp; (try with_reducible rfl)
          simp only [Act.put, List.setIfInBounds_toArray, List.set_cons_zero, List.set_cons_succ]
          apply wpR_next 15 (some 122)
          · simp only [List.getElem?_toArray, List.getElem?_cons_succ, List.getElem?_cons_zero]; exact rfl
          · rfl
          · kernel_rfl
          · kernel_rfl
          · kernel_rfl
          · exact fun _ _ _ _ h => h
          apply Exists.intro
          apply And.intro
          · apply yr_run; rfl; intro w' hw'; go_simp; (try with_reducible rfl)
          simp only [Act.put, List.setIfInBounds_toArray, List.set_cons_zero, List.set_cons_succ]
          apply wpR_next 16 (some 123)
          · simp only [List.getElem?_toArray, List.getElem?_cons_succ, List.getElem?_cons_zero]; exact rfl
          · rfl
          · kernel_rfl
          · kernel_rfl
          · kernel_rfl
          · exact fun _ _ _ _ h => h
          apply Exists.intro
          apply And.intro
          · apply yr_run; rfl; intro w' hw'; go_simp; (try with_reducible rfl)
          simp only [Act.put, List.setIfInBounds_toArray, List.set_cons_zero, List.set_cons_succ]
          apply wpR_next 17 (some 124)
          · simp only [List.getElem?_toArray, List.getElem?_cons_succ, List.getElem?_cons_zero]; exact rfl
          · rfl
          · kernel_rfl
          · kernel_rfl
          · kernel_rfl
          · exact fun _ _ _ _ h => h
          apply Exists.intro
          apply And.intro
          · apply yr_run; rfl; intro w' hw'; go_simp; (try with_reducible rfl)
          simp only [Act.put, List.setIfInBounds_toArray, List.set_cons_zero, List.set_cons_succ]
          apply wpR_next 18 (some 125)
          · simp only [List.getElem?_toArray, List.getElem?_cons_succ, List.getElem?_cons_zero]; exact rfl
          · rfl
          · kernel_rfl
          · kernel_rfl
          · kernel_rfl
          · exact fun _ _ _ _ h => h
          apply Exists.intro
          apply And.intro
          · apply yr_run; rfl; intro w' hw'; go_simp; (try with_reducible rfl)
          simp only [Act.put, List.setIfInBounds_toArray, List.set_cons_zero, List.set_cons_succ]
          apply wpR_next 19 (some 126)
          · simp only [List.getElem?_toArray, List.getElem?_cons_succ, List.getElem?_cons_zero]; exact rfl
          · rfl
          · kernel_rfl
          · kernel_rfl
          · kernel_rfl
          · exact fun _ _ _ _ h => h
          apply Exists.intro
          apply And.intro
          · apply yr_run; rfl; intro w' hw'; go_simp; (try with_reducible rfl)
          simp only [Act.put, List.setIfInBounds_toArray, List.set_cons_zero, List.set_cons_succ]
          refine wpR_done (by kernel_rfl) ?_ _
          intro Wa hwa
          have HIa := Lib.hid (HI9.out.down (Ext.trans ((Below.refl _ _).drew) hwa))
          have HOa := Lib.hid (own_up HOb9.out (Ext.trans ((Below.refl _ _).drew) hwa))
          clear hwa ldc HQ HT1 HT2 HBd HRb9 HOb9 gbm HI9
          by_cases h0 : 0 < L.length
          · obtain ⟨ga, cu, gAb, hga, hW, hcl, hle⟩ := own_block HOa.out h0
            subst gAb
            have HSp : RowKit.Hid (SpoilIn ga cb Wa Wa) := Lib.hid ⟨cu, hW, hcl, Kept.refl _ _⟩
            have HGa := Lib.hid hga
            have h60 : L.length ≤ 1000 := by omega
            obtain ⟨nL, gnL⟩ : ∃ z, L.length = z := ⟨_, rfl⟩
            rw [gnL] at hle h60
            rw [gnL]
            clear hW hcl hga h0 HOa gnL
            go_wp2
            go_loopw [18] (fun sj wr2 => ∃ j : Nat, j ≤ nL ∧ sj = .int .i64 j ∧ RowKit.Hid (SpoilIn ga cb Wa wr2)) (fun sj _ => nL - (intOf sj).toNat)
            case atStart => exact ⟨0, by omega, rfl, HSp⟩
            case round =>
              clear HSp
              obtain ⟨j, hj, rfl, HJ⟩ := hrel
              by_cases hjn : j < nL
              · obtain ⟨⟨v0, hv0⟩, hf0, hst⟩ := HJ.out.at_ (show j < cb by omega)
                have HSt := Lib.hid hst
                clear hst
                go_wp2
                go_roundw
                case rel => exact ⟨j + 1, by omega, by go_num, Lib.hid (HSt.out _)⟩
                case measure => simp [intOf]; omega
              · obtain rfl : j = nL := by omega
                have HI2 := Lib.hid (by obtain ⟨_, _, _, hkW⟩ := HJ.out; exact HI.out.off HIa.out HGa.out hkW : TwoIn w wr g gc M D TX LC As A7 cs c7 es es7 q k7)
                clear HJ
                have HBo2 := Lib.hid (body_yes wr HI2.out.s (by omega) (by rw [HTl.out]; omega) ((i : Int) + 1) i L Htx.out (by omega))
                go_wp2_with fail
                refine HBo2.out.mono ?_
                rintro e Wb ⟨A2, c2, rfl, hrb, -, -, hbb⟩
                have HIb := Lib.hid (HI2.out.down hbb)
                have HRb2 := Lib.hid hrb
                clear hrb hbb HBo2 HI2
                go_upto_region 34 with fail
                have KB : ∀ {u v : World}, Kept Nil_ u v → Below u.heap.size u v := fun h => h.below (Nat.le_refl _) (fun _ _ h => h)
                have HBd := Lib.hid (bel_dr HIb.out.below)
                have ldc : ∀ w', Kept Nil_ Wb.drew w' → w'.cell? ⟨bb, off + i, none⟩ = some (.slice a m c0) := fun w' hk => hk.nil_cell ((HBd.out.cell (p := ⟨bb, off + i, none⟩) Hbb.out).trans HC0.out)
                have HQ : RowKit.Hid (∀ w', Kept Nil_ Wb.drew w' → Calls Try.prog 13 #[.slice a m c0] w' fun e w'' => e = .returned (.slice a L.length c0) ∧ Below w'.heap.size w' w'') := Lib.hid (fun w' hk => HSb.out w' ((Hr0.out.up HBd.out HBd.out.size).bl (KB hk)))
                have HT1 : RowKit.Hid (∀ w', Kept Nil_ Wb.drew w' → (convert 32 9 (.slice A2 L.length c2)).run Try.prog w' = .ok (.string T) w') := Lib.hid (fun w' hk => HgT.out ▸ conv_txt (HRb2.out.dr.bl (KB hk)))
                have HT2 : RowKit.Hid (∀ w', Kept Nil_ Wb.drew w' → (convert 32 9 (.slice a L.length c0)).run Try.prog w' = .ok (.string T) w') := Lib.hid (fun w' hk => HgT.out ▸ conv_txt ((HRt.out.up HBd.out HBd.out.size).bl (KB hk)))
                clear KB
                refine wp_region_reg (Nil_) (by kernel_rfl) ?_
                apply wpR_next 0 (some 143)
                · simp only [List.getElem?_toArray, List.getElem?_cons_succ, List.getElem?_cons_zero]; exact rfl
                · rfl
                · kernel_rfl
                · kernel_rfl
                · kernel_rfl
                · exact fun _ _ _ _ h => h
                apply Exists.intro
                apply And.intro
                · apply yr_run; rfl; intro w' hw'; go_simp; (try with_reducible rfl)
                simp only [Act.put, List.setIfInBounds_toArray, List.set_cons_zero, List.set_cons_succ]
                apply wpR_next 1 (some 144)
                · simp only [List.getElem?_toArray, List.getElem?_cons_succ, List.getElem?_cons_zero]; exact rfl
                · rfl
                · kernel_rfl
                · kernel_rfl
                · kernel_rfl
                · exact fun _ _ _ _ h => h
                apply Exists.intro
                apply And.intro
                · exact yr_run (by rfl) (fun w' h => exec_convert 32 9 (.tmp 143) rfl rfl (HT1.out w' h))
                simp only [Act.put, List.setIfInBounds_toArray, List.set_cons_zero, List.set_cons_succ]
                apply wpR_next 2 (some 145)
                · simp only [List.getElem?_toArray, List.getElem?_cons_succ, List.getElem?_cons_zero]; exact rfl
                · rfl
                · kernel_rfl
                · kernel_rfl
                · kernel_rfl
                · exact fun _ _ _ _ h => h
                apply Exists.intro
                apply And.intro
                · apply yr_run; rfl; intro w' hw'; go_simp; (try with_reducible rfl)
                simp only [Act.put, List.setIfInBounds_toArray, List.set_cons_zero, List.set_cons_succ]
                apply wpR_next 3 (some 146)
                · simp only [List.getElem?_toArray, List.getElem?_cons_succ, List.getElem?_cons_zero]; exact rfl
                · rfl
                · kernel_rfl
                · kernel_rfl
                · kernel_rfl
                · exact fun _ _ _ _ h => h
                apply Exists.intro
                apply And.intro
                · apply yr_run; rfl; intro w' hw'; go_simp; (try with_reducible rfl)
                simp only [Act.put, List.setIfInBounds_toArray, List.set_cons_zero, List.set_cons_succ]
                apply wpR_next 4 (some 147)
                · simp only [List.getElem?_toArray, List.getElem?_cons_succ, List.getElem?_cons_zero]; exact rfl
                · rfl
                · kernel_rfl
                · kernel_rfl
                · kernel_rfl
                · exact fun _ _ _ _ h => h
                apply Exists.intro
                apply And.intro
                · apply yr_run; rfl; intro w' hw'; go_simp; (try with_reducible rfl)
                simp only [Act.put, List.setIfInBounds_toArray, List.set_cons_zero, List.set_cons_succ]
                apply wpR_next 5 (some 148)
                · simp only [List.getElem?_toArray, List.getElem?_cons_succ, List.getElem?_cons_zero]; exact rfl
                · rfl
                · kernel_rfl
                · kernel_rfl
                · kernel_rfl
                · exact fun _ _ _ _ h => h
                apply Exists.intro
                apply And.intro
                · apply yr_run; rfl; intro w' hw'; go_simp; (try with_reducible rfl)
                simp only [Act.put, List.setIfInBounds_toArray, List.set_cons_zero, List.set_cons_succ]
                apply wpR_next 6 (some 149)
                · simp only [List.getElem?_toArray, List.getElem?_cons_succ, List.getElem?_cons_zero]; exact rfl
                · rfl
                · kernel_rfl
                · kernel_rfl
                · kernel_rfl
                · exact fun _ _ _ _ h => h
                apply Exists.intro
                apply And.intro
                · apply yr_call; rfl; rotate_left; intro w' hw'; exact HQ.out w' hw'; intro w'; go_simp
                simp only [Act.put, List.setIfInBounds_toArray, List.set_cons_zero, List.set_cons_succ]
                apply wpR_next 7 (some 150)
                · simp only [List.getElem?_toArray, List.getElem?_cons_succ, List.getElem?_cons_zero]; exact rfl
                · rfl
                · kernel_rfl
                · kernel_rfl
                · kernel_rfl
                · exact fun _ _ _ _ h => h
                apply Exists.intro
                apply And.intro
                · exact yr_run (by rfl) (fun w' h => exec_convert 32 9 (.tmp 149) rfl rfl (HT2.out w' h))
                simp only [Act.put, List.setIfInBounds_toArray, List.set_cons_zero, List.set_cons_succ]
                apply wpR_next 8 (some 151)
                · simp only [List.getElem?_toArray, List.getElem?_cons_succ, List.getElem?_cons_zero]; exact rfl
                · rfl
                · kernel_rfl
                · kernel_rfl
                · kernel_rfl
                · exact fun _ _ _ _ h => h
                apply Exists.intro
                apply And.intro
                · apply yr_run; rfl; intro w' hw'; go_simp; (try with_reducible rfl)
                simp only [Act.put, List.setIfInBounds_toArray, List.set_cons_zero, List.set_cons_succ]
                refine wpR_done (by kernel_rfl) ?_ _
                intro Wc hwc
                have HIc := Lib.hid (HIb.out.down (Ext.trans ((Below.refl _ _).drew) hwc))
                clear hwc ldc HQ HT1 HT2 HBd HRb2
                go_wp2
                go_roundw
                case rel => exact ⟨i + 1, by omega, by go_num, HIc⟩
                case measure => simp [intOf]; omega
          · obtain ⟨nL, gnL⟩ : ∃ z, L.length = z := ⟨_, rfl⟩
            have hn0 : nL = 0 := by omega
            rw [gnL]
            clear gnL h0 HOa
            subst hn0
            go_wp2
            go_loopw [18] (fun sj wr2 => sj = .int .i64 0 ∧ wr2 = Wa) (fun sj _ => 0)
            case atStart => exact ⟨rfl, rfl⟩
            case round =>
              obtain ⟨rfl, rfl⟩ := hrel
              have HBo2 := Lib.hid (body_yes wr HIa.out.s (by omega) (by rw [HTl.out]; omega) ((i : Int) + 1) i L Htx.out (by omega))
              go_wp2_with fail
              refine HBo2.out.mono ?_
              rintro e Wb ⟨A2, c2, rfl, hrb, -, -, hbb⟩
              have HIb := Lib.hid (HIa.out.down hbb)
              have HRb2 := Lib.hid hrb
              clear hrb hbb HBo2 HIa
              go_upto_region 34 with fail
              have KB : ∀ {u v : World}, Kept Nil_ u v → Below u.heap.size u v := fun h => h.below (Nat.le_refl _) (fun _ _ h => h)
              have HBd := Lib.hid (bel_dr HIb.out.below)
              have ldc : ∀ w', Kept Nil_ Wb.drew w' → w'.cell? ⟨bb, off + i, none⟩ = some (.slice a m c0) := fun w' hk => hk.nil_cell ((HBd.out.cell (p := ⟨bb, off + i, none⟩) Hbb.out).trans HC0.out)
              have HQ : RowKit.Hid (∀ w', Kept Nil_ Wb.drew w' → Calls Try.prog 13 #[.slice a m c0] w' fun e w'' => e = .returned (.slice a L.length c0) ∧ Below w'.heap.size w' w'') := Lib.hid (fun w' hk => HSb.out w' ((Hr0.out.up HBd.out HBd.out.size).bl (KB hk)))
              have HT1 : RowKit.Hid (∀ w', Kept Nil_ Wb.drew w' → (convert 32 9 (.slice A2 L.length c2)).run Try.prog w' = .ok (.string T) w') := Lib.hid (fun w' hk => HgT.out ▸ conv_txt (HRb2.out.dr.bl (KB hk)))
              have HT2 : RowKit.Hid (∀ w', Kept Nil_ Wb.drew w' → (convert 32 9 (.slice a L.length c0)).run Try.prog w' = .ok (.string T) w') := Lib.hid (fun w' hk => HgT.out ▸ conv_txt ((HRt.out.up HBd.out HBd.out.size).bl (KB hk)))
              clear KB
              refine wp_region_reg (Nil_) (by kernel_rfl) ?_
              apply wpR_next 0 (some 143)
              · simp only [List.getElem?_toArray, List.getElem?_cons_succ, List.getElem?_cons_zero]; exact rfl
              · rfl
              · kernel_rfl
              · kernel_rfl
              · kernel_rfl
              · exact fun _ _ _ _ h => h
              apply Exists.intro
              apply And.intro
              · apply yr_run; rfl; intro w' hw'; go_simp; (try with_reducible rfl)
              simp only [Act.put, List.setIfInBounds_toArray, List.set_cons_zero, List.set_cons_succ]
              apply wpR_next 1 (some 144)
              · simp only [List.getElem?_toArray, List.getElem?_cons_succ, List.getElem?_cons_zero]; exact rfl
              · rfl
              · kernel_rfl
              · kernel_rfl
              · kernel_rfl
              · exact fun _ _ _ _ h => h
              apply Exists.intro
              apply And.intro
              · exact yr_run (by rfl) (fun w' h => exec_convert 32 9 (.tmp 143) rfl rfl (HT1.out w' h))
              simp only [Act.put, List.setIfInBounds_toArray, List.set_cons_zero, List.set_cons_succ]
              apply wpR_next 2 (some 145)
              · simp only [List.getElem?_toArray, List.getElem?_cons_succ, List.getElem?_cons_zero]; exact rfl
              · rfl
              · kernel_rfl
              · kernel_rfl
              · kernel_rfl
              · exact fun _ _ _ _ h => h
              apply Exists.intro
              apply And.intro
              · apply yr_run; rfl; intro w' hw'; go_simp; (try with_reducible rfl)
              simp only [Act.put, List.setIfInBounds_toArray, List.set_cons_zero, List.set_cons_succ]
              apply wpR_next 3 (some 146)
              · simp only [List.getElem?_toArray, List.getElem?_cons_succ, List.getElem?_cons_zero]; exact rfl
              · rfl
              · kernel_rfl
              · kernel_rfl
              · kernel_rfl
              · exact fun _ _ _ _ h => h
              apply Exists.intro
              apply And.intro
              · apply yr_run; rfl; intro w' hw'; go_simp; (try with_reducible rfl)
              simp only [Act.put, List.setIfInBounds_toArray, List.set_cons_zero, List.set_cons_succ]
              apply wpR_next 4 (some 147)
              · simp only [List.getElem?_toArray, List.getElem?_cons_succ, List.getElem?_cons_zero]; exact rfl
              · rfl
              · kernel_rfl
              · kernel_rfl
              · kernel_rfl
              · exact fun _ _ _ _ h => h
              apply Exists.intro
              apply And.intro
              · apply yr_run; rfl; intro w' hw'; go_simp; (try with_reducible rfl)
              simp only [Act.put, List.setIfInBounds_toArray, List.set_cons_zero, List.set_cons_succ]
              apply wpR_next 5 (some 148)
              · simp only [List.getElem?_toArray, List.getElem?_cons_succ, List.getElem?_cons_zero]; exact rfl
              · rfl
              · kernel_rfl
              · kernel_rfl
              · kernel_rfl
              · exact fun _ _ _ _ h => h
              apply Exists.intro
              apply And.intro
              · apply yr_run; rfl; intro w' hw'; go_simp; (try with_reducible rfl)
              simp only [Act.put, List.setIfInBounds_toArray, List.set_cons_zero, List.set_cons_succ]
              apply wpR_next 6 (some 149)
              · simp only [List.getElem?_toArray, List.getElem?_cons_succ, List.getElem?_cons_zero]; exact rfl
              · rfl
              · kernel_rfl
              · kernel_rfl
              · kernel_rfl
              · exact fun _ _ _ _ h => h
              apply Exists.intro
              apply And.intro
              · apply yr_call; rfl; rotate_left; intro w' hw'; exact HQ.out w' hw'; intro w'; go_simp
              simp only [Act.put, List.setIfInBounds_toArray, List.set_cons_zero, List.set_cons_succ]
              apply wpR_next 7 (some 150)
              · simp only [List.getElem?_toArray, List.getElem?_cons_succ, List.getElem?_cons_zero]; exact rfl
              · rfl
              · kernel_rfl
              · kernel_rfl
              · kernel_rfl
              · exact fun _ _ _ _ h => h
              apply Exists.intro
              apply And.intro
              · exact yr_run (by rfl) (fun w' h => exec_convert 32 9 (.tmp 149) rfl rfl (HT2.out w' h))
              simp only [Act.put, List.setIfInBounds_toArray, List.set_cons_zero, List.set_cons_succ]
              apply wpR_next 8 (some 151)
              · simp only [List.getElem?_toArray, List.getElem?_cons_succ, List.getElem?_cons_zero]; exact rfl
              · rfl
              · kernel_rfl
              · kernel_rfl
              · kernel_rfl
              · exact fun _ _ _ _ h => h
              apply Exists.intro
              apply And.intro
              · apply yr_run; rfl; intro w' hw'; go_simp; (try with_reducible rfl)
              simp only [Act.put, List.setIfInBounds_toArray, List.set_cons_zero, List.set_cons_succ]
              refine wpR_done (by kernel_rfl) ?_ _
              intro Wc hwc
              have HIc := Lib.hid (HIb.out.down (Ext.trans ((Below.refl _ _).drew) hwc))
              clear hwc ldc HQ HT1 HT2 HBd HRb2
              go_wp2
              go_roundw
              case rel => exact ⟨i + 1, by omega, by go_num, HIc⟩
              case measure => simp [intOf]; omega
        · go_wp2
          go_ret
          exact ⟨rfl, HI.out.below⟩
end Go.Proofs.Ythhkimjafgghiaa
