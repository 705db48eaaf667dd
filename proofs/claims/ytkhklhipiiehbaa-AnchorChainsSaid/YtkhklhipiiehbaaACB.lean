/- 'AnchorChains' answers true for any numbers, whether the row comes round or not.
   No condition beyond the row's own. -/
import Derived.Test.YtkhklhipiiehbaaACA
import Derived.ProofKit
import Derived.Below
import Derived.Carry
import Derived.WideKeyArgs
import Derived.OpenShut
import Derived.Deep.Slices
import Derived.Test.YtkhklhipiiehbaaProg
import Derived.KernelRfl
import Derived.Test.YtkhklhipiiehbaaRows

/- AnchorChains. -/
namespace Go.Proofs.Ytkhklhipiiehbaa
open Go.RowKit
set_option linter.unusedSimpArgs false
set_option linter.unusedVariables false

theorem and_63 (x : Int) : ∃ v : Nat, v ≤ 63 ∧ bits .and .i64 x 63 = (v : Int) := by
  have h : (BitVec.ofInt 64 x &&& BitVec.ofInt 64 63).toNat ≤ 63 := by
    rw [BitVec.toNat_and]
    exact Nat.and_le_right
  refine ⟨_, h, ?_⟩
  show IntKind.i64.wrap ((BitVec.ofInt 64 x &&& BitVec.ofInt 64 63).toNat : Int) = _
  exact IntWalk.i64_in _ (by omega)
theorem info_gone : (Try.prog.info? 36).map (fun i => (i.zero, i.size, i.bytes)) = some (some (.agg #[.int .i64 0, .int .i64 0, .int .i64 0, .int .i64 0, .int .i64 0, .int .i64 0]), 6, 48) := by kernel_rfl
def chVs (r : Nat) : List VC := [((1, 1), (some ⟨r, 0, none⟩, 1, 1, [(1, 1, 0)]), ByteArray.empty, 0)]
theorem ch_st (r : Nat) (k : Int) : stV (chVs r) (dN k) = decide (k = 1) := by
  unfold stV chVs
  by_cases h : k = 1
  · subst h
    rw [atV_yes _ _ _ (List.mem_singleton.2 rfl), decide_eq_true rfl]
  · rw [atV_no _ _ _ (fun q => h (by have := List.mem_singleton.1 q; unfold dN at this; simpa using this)), decide_eq_false h]
    rfl
/-- What the dart asked for is now. -/
def wantD (rd : Bool) : D := if rd = true then zD else dN 1
theorem ch_res (r n : Nat) (rd : Bool) (k : Int) (h1 : 2 ≤ k) (h2 : k ≤ (n : Int) + 1) : resG (stV (chVs r)) (chainG n rd n) n (dN k) = wantD rd := by
  cases rd with
  | false => exact chain_ends n _ (ch_st r) n k (by omega) h2 h2
  | true => exact chain_round n _ (ch_st r) n k h1 h2
theorem ch_near (r n : Nat) (rd : Bool) (k : Int) (h1 : 2 ≤ k) (h2 : k ≤ (n : Int) + 1) : nearC (chVs r) (chainG n rd n) n (1, 1) (dN k) = wantD rd := by
  have e : (fndV (chVs r) (1, 1)).1.2.1.2.2.2 = [((1 : Int), (1 : Int), (0 : Int))] := rfl
  unfold nearC
  rw [ch_res r n rd k h1 h2, e]
  cases rd <;> rfl
theorem ch_one (r n : Nat) (rd : Bool) : resG (stV (chVs r)) (chainG n rd n) n (dN 1) = dN 1 := resG_self _ _ _ (by rw [ch_st]; rfl)
/-- Between two rounds: the row of darts that are gone grows. -/
structure ChIn (w : World) (B2 gr gv gs : Nat) (n : Nat) (rd : Bool) (i : Nat) (u : Value) (wr : World) : Prop where
  ow : Ow w B2 36 6 u i (rowsV gnC (chainG n rd i)) wr
  r : Whole wr gr 32 [.int .i64 1, .int .i64 1, .int .i64 0]
  v : Whole wr gv 53 [.int .i64 1, .int .i64 1, .slice (some ⟨gr, 0, none⟩) 1 1, .string { data := #[] }, .int .i64 0]
  s : Whole wr gs 28 [.slice (some ⟨gv, 0, none⟩) 1 1, .slice none 0 0, u]
section
variable {w wr wr' : World} {B2 gr gv gs n i : Nat} {rd : Bool} {u : Value}
theorem ChIn.below (h : ChIn w B2 gr gv gs n rd i u wr) (hb : Below wr.heap.size wr wr') : ChIn w B2 gr gv gs n rd i u wr' :=
  ⟨h.ow.up hb, h.r.below hb, h.v.below hb, h.s.below hb⟩
theorem ChIn.store (h : ChIn w B2 gr gv gs n rd i u wr) (hr : gr ≠ gs) (hv : gv ≠ gs) (hs : gs < B2) (hl : w.heap.size ≤ gs) {u' : Value} {j : Nat} (ho : Ow w B2 36 6 u' j (rowsV gnC (chainG n rd j)) wr') (hb : Below B2 wr wr') (h0 : gr < B2) (h1 : gv < B2) : ChIn w B2 gr gv gs n rd j u' (wr'.setCell ⟨gs, 2, none⟩ u') :=
  ⟨ho.set_far (ho.low_ne hs) hl u', (h.r.at_ (hb.block _ h0)).set_far' hr u', (h.v.at_ (hb.block _ h1)).set_far' hv u', (h.s.at_ (hb.block _ hs)).set_ 2 u'⟩
theorem ChIn.far (h : ChIn w B2 gr gv gs n rd i u wr) {g j : Nat} (hg : wr.heap.size ≤ g ∨ (gr ≠ g ∧ gv ≠ g ∧ gs ≠ g ∧ some g ≠ u.ownBlock ∧ w.heap.size ≤ g)) (hw : w.heap.size ≤ g) (x : Value) : ChIn w B2 gr gv gs n rd i u (wr.setCell ⟨g, j, none⟩ x) := by
  have h1 := h.r.lt
  have h2 := h.v.lt
  have h3 := h.s.lt
  have h4 : some g ≠ u.ownBlock := hg.elim (fun q => h.ow.ne_ q) (fun q => q.2.2.2.1)
  exact ⟨h.ow.set_far h4 hw x, h.r.set_far' (by omega) x, h.v.set_far' (by omega) x, h.s.set_far' (by omega) x⟩
theorem ChIn.dg (h : ChIn w B2 gr gv gs n rd i u wr) : DgIn wr (some ⟨gv, 0, none⟩) 1 1 (chVs gr) none 0 0 [] :=
  ⟨RdS.of_whole (t := 53) h.v rfl, RdS.no _ _ _, fun x hx => by
    obtain rfl := List.mem_singleton.1 hx
    exact ⟨by show 1 ≤ maxLen; unfold maxLen; omega, RdS.whole3 (t := 32) (L := [(1, 1, 0)]) h.r⟩⟩
theorem ch_short (gr : Nat) : ∀ y ∈ chVs gr, y.2.1.2.1 ≤ 1000000 := fun y hy => by
  obtain rfl := List.mem_singleton.1 hy
  show 1 ≤ 1000000
  omega
theorem ChIn.res {A : Option Addr} {c : Nat} (h : ChIn w B2 gr gv gs n rd n (.slice A n c) wr) (hn : n ≤ 64) (k : Int) (r : D) (hr : resG (stV (chVs gr)) (chainG n rd n) n (dN k) = r) (W : World) (hb : Below wr.heap.size wr W) : Calls Try.prog 10 #[.agg #[.slice (some ⟨gv, 0, none⟩) 1 1, .slice none 0 0, .slice A n c], .agg #[.int .i64 1, .int .i64 k, .int .i64 0]] W fun e w' => e = .returned (.agg #[.int .i64 r.1, .int .i64 r.2.1, .int .i64 r.2.2]) ∧ Below W.heap.size W w' := by
  obtain ⟨_, _, he, hrd⟩ := (h.below hb).ow.rds
  injection he with h1 h2 h3
  subst h1 h3
  have e := res_any (some ⟨gv, 0, none⟩) 1 1 (chVs gr) none 0 0 [] A n c (chainG n rd n) (dN k) W (h.dg.below hb) (by omega) (ch_short gr) hrd (by omega)
  rw [hr] at e
  exact e
theorem ChIn.corner {A : Option Addr} {c : Nat} (h : ChIn w B2 gr gv gs n rd n (.slice A n c) wr) (hn : n ≤ 64) (k : Int) (r : D) (hr : nearC (chVs gr) (chainG n rd n) n (1, 1) (dN k) = r) (W : World) (hb : Below wr.heap.size wr W) : Calls Try.prog 14 #[.agg #[.slice (some ⟨gv, 0, none⟩) 1 1, .slice none 0 0, .slice A n c], .agg #[.int .i64 1, .int .i64 1, .int .i64 1, .int .i64 k, .int .i64 0]] W fun e w' => e = .returned (.tuple #[.agg #[.int .i64 1, .int .i64 1, .int .i64 r.1, .int .i64 r.2.1, .int .i64 r.2.2], .int .i64 0]) ∧ Below W.heap.size W w' := by
  obtain ⟨_, _, he, hrd⟩ := (h.below hb).ow.rds
  injection he with h1 h2 h3
  subst h1 h3
  have e := corner_yes (some ⟨gv, 0, none⟩) 1 1 (chVs gr) none 0 0 [] A n c (chainG n rd n) 1 1 1 k 0 W (h.dg.below hb) (by omega) (ch_short gr) hrd (by omega) rfl
  rw [show ((1 : Int), k, (0 : Int)) = dN k from rfl, hr] at e
  exact e
end
set_option maxRecDepth 100000 in
set_option maxHeartbeats 4000000 in
theorem law_chains (mi ai : Int) (rd : Bool) (w : World) : Calls Try.prog 6 #[.int .i64 mi, .int .i64 ai, .bool rd] w fun e w' => e = .returned (.bool true) ∧ Below w.heap.size w w' := by
  obtain ⟨i0, hi, hz0, hz1, hz2⟩ := info_partsD info_gone
  obtain ⟨m0, hm0, gm⟩ := and_63 mi
  obtain ⟨a0, ha0, ga⟩ := and_63 ai
  obtain ⟨n, gn⟩ : ∃ n : Nat, m0 + 1 = n := ⟨_, rfl⟩
  obtain ⟨q, gq⟩ : ∃ q : Nat, a0 % n = q := ⟨_, rfl⟩
  obtain ⟨K, gK⟩ : ∃ K : Nat, 2 + q = K := ⟨_, rfl⟩
  have hn1 : 1 ≤ n := by omega
  have hn64 : n ≤ 64 := by omega
  have hqn : q < n := by rw [← gq]; exact Nat.mod_lt _ hn1
  have hK2 : 2 ≤ K := by omega
  have hKn : K ≤ n + 1 := by omega
  have e1 : (1 : Int) + (m0 : Int) = (n : Int) := by omega
  have e2 : (a0 : Int) % (n : Int) = (q : Int) := by omega
  have e3 : (a0 : Int).tmod (n : Int) = (q : Int) := by rw [Int.tmod_eq_emod_of_nonneg (by omega)]; exact e2
  have e4 : (2 : Int) + (q : Int) = (K : Int) := by omega
  have e5 : IntKind.i64.wrap (n : Int) = (n : Int) := IntWalk.i64_in _ (by omega)
  have e6 : IntKind.i64.wrap (K : Int) = (K : Int) := IntWalk.i64_in _ (by omega)
  have e7 : IntKind.i64.wrap (q : Int) = (q : Int) := IntWalk.i64_in _ (by omega)
  have e8 : (((n : Nat) : Int) == 0) = false := beq_eq_false_iff_ne.2 (by omega)
  clear gn gq gK
  go_enter Try.func6, Try.ntmps6
  go_wp2_with fail
  refine (shown11_any w).mono ?_
  rintro e w0 ⟨rfl, hb0⟩
  have HB0 := Lib.hid hb0
  clear hb0
  go_wp2_with fail
  refine (dart11_any _ _).mono ?_
  rintro e w1 ⟨rfl, hb1⟩
  have HB1 := Lib.hid (bel_bl HB0.out hb1)
  clear hb1 HB0
  go_wp2_with fail
  have hr0 : Whole (((w1.alloc (.cells #[.int .i64 1, .int .i64 1, .int .i64 0] 32)).alloc (.cells #[.int .i64 1, .int .i64 1, .slice (some ⟨w1.heap.size, 0, none⟩) 1 1, .string { data := #[] }, .int .i64 0] 53)).alloc (.cells #[.slice (some ⟨w1.heap.size + 1, 0, none⟩) 1 1, .slice none 0 0, .slice none 0 0] 28)) w1.heap.size 32 [.int .i64 1, .int .i64 1, .int .i64 0] := ((Whole.new_ w1 32 [.int .i64 1, .int .i64 1, .int .i64 0]).alloc _).alloc _
  have hv0 : Whole (((w1.alloc (.cells #[.int .i64 1, .int .i64 1, .int .i64 0] 32)).alloc (.cells #[.int .i64 1, .int .i64 1, .slice (some ⟨w1.heap.size, 0, none⟩) 1 1, .string { data := #[] }, .int .i64 0] 53)).alloc (.cells #[.slice (some ⟨w1.heap.size + 1, 0, none⟩) 1 1, .slice none 0 0, .slice none 0 0] 28)) (w1.heap.size + 1) 53 [.int .i64 1, .int .i64 1, .slice (some ⟨w1.heap.size, 0, none⟩) 1 1, .string { data := #[] }, .int .i64 0] := (Whole.new2 (w := w1.alloc (.cells #[.int .i64 1, .int .i64 1, .int .i64 0] 32)) (by simp)).alloc _
  have hs0 : Whole (((w1.alloc (.cells #[.int .i64 1, .int .i64 1, .int .i64 0] 32)).alloc (.cells #[.int .i64 1, .int .i64 1, .slice (some ⟨w1.heap.size, 0, none⟩) 1 1, .string { data := #[] }, .int .i64 0] 53)).alloc (.cells #[.slice (some ⟨w1.heap.size + 1, 0, none⟩) 1 1, .slice none 0 0, .slice none 0 0] 28)) (w1.heap.size + 1 + 1) 28 [.slice (some ⟨w1.heap.size + 1, 0, none⟩) 1 1, .slice none 0 0, .slice none 0 0] := Whole.new2 (w := (w1.alloc (.cells #[.int .i64 1, .int .i64 1, .int .i64 0] 32)).alloc (.cells #[.int .i64 1, .int .i64 1, .slice (some ⟨w1.heap.size, 0, none⟩) 1 1, .string { data := #[] }, .int .i64 0] 53)) (by simp)
  have hbl := bel_al (bel_al (bel_al HB1.out (.cells #[.int .i64 1, .int .i64 1, .int .i64 0] 32)) (.cells #[.int .i64 1, .int .i64 1, .slice (some ⟨w1.heap.size, 0, none⟩) 1 1, .string { data := #[] }, .int .i64 0] 53)) (.cells #[.slice (some ⟨w1.heap.size + 1, 0, none⟩) 1 1, .slice none 0 0, .slice none 0 0] 28)
  have hsz : w1.heap.size + 1 + 1 + 1 ≤ (((w1.alloc (.cells #[.int .i64 1, .int .i64 1, .int .i64 0] 32)).alloc (.cells #[.int .i64 1, .int .i64 1, .slice (some ⟨w1.heap.size, 0, none⟩) 1 1, .string { data := #[] }, .int .i64 0] 53)).alloc (.cells #[.slice (some ⟨w1.heap.size + 1, 0, none⟩) 1 1, .slice none 0 0, .slice none 0 0] 28)).heap.size := by simp
  have hlo := HB1.out.size
  obtain ⟨W0, gW0⟩ : ∃ z, (((w1.alloc (.cells #[.int .i64 1, .int .i64 1, .int .i64 0] 32)).alloc (.cells #[.int .i64 1, .int .i64 1, .slice (some ⟨w1.heap.size, 0, none⟩) 1 1, .string { data := #[] }, .int .i64 0] 53)).alloc (.cells #[.slice (some ⟨w1.heap.size + 1, 0, none⟩) 1 1, .slice none 0 0, .slice none 0 0] 28)) = z := ⟨_, rfl⟩
  rw [gW0] at hr0 hv0 hs0 hbl hsz ⊢
  obtain ⟨gs, ggs⟩ : ∃ z, w1.heap.size + 1 + 1 = z := ⟨_, rfl⟩
  rw [ggs] at hs0 hsz ⊢
  obtain ⟨gv, ggv⟩ : ∃ z, w1.heap.size + 1 = z := ⟨_, rfl⟩
  rw [ggv] at hv0 hs0 ⊢
  obtain ⟨gr, ggr⟩ : ∃ z, w1.heap.size = z := ⟨_, rfl⟩
  rw [ggr] at hr0 hv0 hlo ⊢
  obtain ⟨B2, gB2⟩ : ∃ z, gs + 1 = z := ⟨_, rfl⟩
  have HC0 : RowKit.Hid (ChIn w B2 gr gv gs n rd 0 (.slice none 0 0) W0) := Lib.hid ⟨Ow.nil_ hbl (by omega) (by omega), hr0, hv0, hs0⟩
  have Hls : RowKit.Hid (w.heap.size ≤ gs) := Lib.hid (by omega)
  have hrs : gr ≠ gs := by omega
  have hvs : gv ≠ gs := by omega
  have hr2 : gr < B2 := by omega
  have hv2 : gv < B2 := by omega
  have hs2 : gs < B2 := by omega
  clear gW0 ggs ggv ggr gB2 hr0 hv0 hs0 hbl hsz hlo HB1
  go_loopw [10] (fun si wr => ∃ (i : Nat) (u : Value), i ≤ n ∧ si = .int .i64 i ∧ RowKit.Hid (ChIn w B2 gr gv gs n rd i u wr)) (fun si _ => n - (intOf si).toNat)
  case atStart => exact ⟨0, _, by omega, rfl, HC0⟩
  case round =>
    clear HC0
    obtain ⟨i, u, hin, rfl, HC⟩ := hrel
    obtain ⟨wo, gwo⟩ : ∃ z, wr = z := ⟨_, rfl⟩
    rw [gwo] at HC ⊢
    clear gwo
    by_cases hlt : i < n
    · have hltI : (i : Int) < (n : Int) := by omega
      go_wp2_with fail
      refine (dart11_any _ _).mono ?_
      rintro e w3 ⟨rfl, hb3⟩
      have HD : RowKit.Hid (∀ n w', Calls Try.prog 20 #[.int .i64 n] w' fun e w'' => e = .returned (.agg #[.int .i64 1, .int .i64 n, .int .i64 0]) ∧ Below w'.heap.size w' w'') := Lib.hid dart11_any
      have e9 : IntKind.i64.wrap (2 + (i : Int)) = 2 + (i : Int) := IntWalk.i64_in _ (by omega)
      by_cases hz : i = 0 ∧ rd = true
      · have HVt : RowKit.Hid (vR n rd (2 + (i : Int)) = (1, 1 + (n : Int), 0)) := Lib.hid (by
          rw [show (2 : Int) + (i : Int) = 2 by have := hz.1; omega]
          exact vR_first n hz.2)
        have HC3 := Lib.hid ((HC.out.below hb3).below (below1 w3 (.cells #[.int .i64 1, .int .i64 (1 + (i : Int)), .int .i64 0] 32)))
        have HT3 : RowKit.Hid (Whole (w3.alloc (.cells #[.int .i64 1, .int .i64 (1 + (i : Int)), .int .i64 0] 32)) w3.heap.size 32 [.int .i64 1, .int .i64 (1 + (i : Int)), .int .i64 0]) := Lib.hid (Whole.new_ _ _ _)
        have HNe3 : RowKit.Hid (some w3.heap.size ≠ u.ownBlock) := Lib.hid ((HC.out.below hb3).ow.ne_ (Nat.le_refl _))
        have HL3 : RowKit.Hid (w.heap.size ≤ w3.heap.size ∧ gr < w3.heap.size ∧ gv < w3.heap.size ∧ gs < w3.heap.size) := Lib.hid ⟨(HC.out.below hb3).ow.below.size, (HC.out.below hb3).r.lt, (HC.out.below hb3).v.lt, (HC.out.below hb3).s.lt⟩
        clear hb3 HC
        obtain ⟨hi0, hrt⟩ := hz
        subst hrt
        have hq0 : ((i : Int) == 0) = true := by rw [hi0]; rfl
        clear hi0
        go_wp2_with fail
        refine (dart11_any _ _).mono ?_
        rintro e w4 ⟨rfl, hb4⟩
        have HC4 := Lib.hid (HC3.out.below hb4)
        have HT4 := Lib.hid (HT3.out.below hb4)
        clear hb4 HC3 HT3
        obtain ⟨g11, gg11⟩ : ∃ z, w3.heap.size = z := ⟨_, rfl⟩
        rw [gg11] at HT4 HNe3 HL3 ⊢
        have k0 := HT4.out.cell (i := 0) rfl
        have k1 := HT4.out.cell (i := 1) rfl
        have k2 := HT4.out.cell (i := 2) rfl
        have f0 := HT4.out.free 0
        have f1 := HT4.out.free 1
        have f2 := HT4.out.free 2
        clear gg11
        go_upto_region 10 with fail
        have HT : RowKit.Hid (Whole (((w4.setCell ⟨g11, 0, none⟩ (.int .i64 1)).setCell ⟨g11, 1, none⟩ (.int .i64 (1 + (n : Int)))).setCell ⟨g11, 2, none⟩ (.int .i64 0)) g11 32 [.int .i64 1, .int .i64 (1 + (n : Int)), .int .i64 0]) := Lib.hid (((HT4.out.set_ 0 (.int .i64 1)).set_ 1 (.int .i64 (1 + (n : Int)))).set_ 2 (.int .i64 0))
        have hfr : gr ≠ g11 ∧ gv ≠ g11 ∧ gs ≠ g11 ∧ some g11 ≠ u.ownBlock ∧ w.heap.size ≤ g11 := ⟨by have := HL3.out; omega, by have := HL3.out; omega, by have := HL3.out; omega, HNe3.out, HL3.out.1⟩
        have HC := Lib.hid (((HC4.out.far (j := 0) (.inr hfr) HL3.out.1 (.int .i64 1)).far (j := 1) (.inr hfr) HL3.out.1 (.int .i64 (1 + (n : Int)))).far (j := 2) (.inr hfr) HL3.out.1 (.int .i64 0))
        have HNe := HNe3
        obtain ⟨Wd, gWd⟩ : ∃ z, (((w4.setCell ⟨g11, 0, none⟩ (.int .i64 1)).setCell ⟨g11, 1, none⟩ (.int .i64 (1 + (n : Int)))).setCell ⟨g11, 2, none⟩ (.int .i64 0)) = z := ⟨_, rfl⟩
        rw [gWd] at HC HT ⊢
        clear gWd hfr k0 k1 k2 f0 f1 f2 HC4 HT4 HNe3 HL3
        obtain ⟨t2, gt2⟩ : ∃ z : Int, 1 + (n : Int) = z := ⟨_, rfl⟩
        rw [gt2] at HT HVt
        clear gt2
        have ld0 : ∀ w', Kept (fun i => some i = u.ownBlock) Wd.drew w' → w'.cell? ⟨gs, 2, none⟩ = some u := fun w' h => h.cell (HC.out.s.dr.cell (i := 2) rfl) (HC.out.ow.low_ne hs2)
        have lt0 : ∀ w', Kept (fun i => some i = u.ownBlock) Wd.drew w' → w'.cell? ⟨g11, 0, none⟩ = some (.int .i64 1) := fun w' h => h.cell (HT.out.dr.cell (i := 0) rfl) HNe.out
        have lt1 : ∀ w', Kept (fun i => some i = u.ownBlock) Wd.drew w' → w'.cell? ⟨g11, 1, none⟩ = some (.int .i64 t2) := fun w' h => h.cell (HT.out.dr.cell (i := 1) rfl) HNe.out
        have lt2 : ∀ w', Kept (fun i => some i = u.ownBlock) Wd.drew w' → w'.cell? ⟨g11, 2, none⟩ = some (.int .i64 0) := fun w' h => h.cell (HT.out.dr.cell (i := 2) rfl) HNe.out
        have HCd : RowKit.Hid (ChIn w B2 gr gv gs n true i u Wd.drew) := Lib.hid ⟨⟨HC.out.ow.own, HC.out.ow.below.drew, HC.out.ow.lo, HC.out.ow.hi⟩, HC.out.r.dr, HC.out.v.dr, HC.out.s.dr⟩
        clear HC HT HNe
        refine wp_region_tail ((fun i => some i = u.ownBlock)) [10] (by kernel_rfl) ?_
        apply wpT_next 0 (some 43) (by kernel_rfl)
        · simp only [List.getElem?_toArray, List.getElem?_cons_succ, List.getElem?_cons_zero]; exact rfl
        · rfl
        · kernel_rfl
        · kernel_rfl
        · kernel_rfl
        · exact fun _ _ _ _ h => h
        apply Exists.intro
        apply And.intro
        · apply yr_run; rfl; intro w' hw'; go_simp; (try with_reducible rfl)
        simp only [Act.put, List.setIfInBounds_toArray, List.set_cons_zero, List.set_cons_succ]
        apply wpT_next 1 (some 44) (by kernel_rfl)
        · simp only [List.getElem?_toArray, List.getElem?_cons_succ, List.getElem?_cons_zero]; exact rfl
        · rfl
        · kernel_rfl
        · kernel_rfl
        · kernel_rfl
        · exact fun _ _ _ _ h => h
        apply Exists.intro
        apply And.intro
        · apply yr_run; rfl; intro w' hw'; go_simp; (try with_reducible rfl)
        simp only [Act.put, List.setIfInBounds_toArray, List.set_cons_zero, List.set_cons_succ]
        apply wpT_next 2 (some 45) (by kernel_rfl)
        · simp only [List.getElem?_toArray, List.getElem?_cons_succ, List.getElem?_cons_zero]; exact rfl
        · rfl
        · kernel_rfl
        · kernel_rfl
        · kernel_rfl
        · exact fun _ _ _ _ h => h
        apply Exists.intro
        apply And.intro
        · apply yr_run; rfl; intro w' hw'; go_simp; (try with_reducible rfl)
        simp only [Act.put, List.setIfInBounds_toArray, List.set_cons_zero, List.set_cons_succ]
        apply wpT_next 3 (some 46) (by kernel_rfl)
        · simp only [List.getElem?_toArray, List.getElem?_cons_succ, List.getElem?_cons_zero]; exact rfl
        · rfl
        · kernel_rfl
        · kernel_rfl
        · kernel_rfl
        · exact fun _ _ _ _ h => h
        apply Exists.intro
        apply And.intro
        · apply yr_run; rfl; intro w' hw'; go_simp; (try with_reducible rfl)
        simp only [Act.put, List.setIfInBounds_toArray, List.set_cons_zero, List.set_cons_succ]
        apply wpT_next 4 (some 47) (by kernel_rfl)
        · simp only [List.getElem?_toArray, List.getElem?_cons_succ, List.getElem?_cons_zero]; exact rfl
        · rfl
        · kernel_rfl
        · kernel_rfl
        · kernel_rfl
        · exact fun _ _ _ _ h => h
        apply Exists.intro
        apply And.intro
        · apply yr_call; rfl; rotate_left; intro w' hw'; exact HD.out (2 + (i : Int)) w'; intro w'; go_simp
        simp only [Act.put, List.setIfInBounds_toArray, List.set_cons_zero, List.set_cons_succ]
        apply wpT_next 5 (some 48) (by kernel_rfl)
        · simp only [List.getElem?_toArray, List.getElem?_cons_succ, List.getElem?_cons_zero]; exact rfl
        · rfl
        · kernel_rfl
        · kernel_rfl
        · kernel_rfl
        · exact fun _ _ _ _ h => h
        apply Exists.intro
        apply And.intro
        · apply yr_run; rfl; intro w' hw'; go_simp; (try with_reducible rfl)
        simp only [Act.put, List.setIfInBounds_toArray, List.set_cons_zero, List.set_cons_succ]
        apply wpT_next 6 (some 49) (by kernel_rfl)
        · simp only [List.getElem?_toArray, List.getElem?_cons_succ, List.getElem?_cons_zero]; exact rfl
        · rfl
        · kernel_rfl
        · kernel_rfl
        · kernel_rfl
        · exact fun _ _ _ _ h => h
        apply Exists.intro
        apply And.intro
        · apply yr_run; rfl; intro w' hw'; go_simp; (try with_reducible rfl)
        simp only [Act.put, List.setIfInBounds_toArray, List.set_cons_zero, List.set_cons_succ]
        apply wpT_run 7 (some 50)
        · simp only [List.getElem?_toArray, List.getElem?_cons_succ, List.getElem?_cons_zero]; exact rfl
        · rfl
        · kernel_rfl
        · rfl
        intro w' hw'
        refine ⟨.slice (some ⟨w'.heap.size, 0, none⟩) 1 1, w'.alloc (.cells (gnC (dN (2 + (i : Int)), (1, t2, 0))).toArray 36), exec_buildSlice 26 36 1 #[(0, .tmp 49)] (by rfl) Try.underlying26 _ (by kernel_rfl), Kept.of_below (below1 _ _), ?_⟩
        have HXd : RowKit.Hid (Ext Wd.drew (w'.alloc (.cells (gnC (dN (2 + (i : Int)), (1, t2, 0))).toArray 36))) := Lib.hid (Ext.trans hw' (below1 _ _))
        have HL : RowKit.Hid (RdS (w'.alloc (.cells (gnC (dN (2 + (i : Int)), (1, t2, 0))).toArray 36)) (w'.alloc (.cells (gnC (dN (2 + (i : Int)), (1, t2, 0))).toArray 36)).heap.size 6 (some ⟨w'.heap.size, 0, none⟩) 1 1 (gnC (dN (2 + (i : Int)), (1, t2, 0)))) := Lib.hid (RdS.of_whole (Whole.new_ _ _ _) rfl)
        obtain ⟨W3, gW3⟩ : ∃ z, w'.alloc (.cells (gnC (dN (2 + (i : Int)), (1, t2, 0))).toArray 36) = z := ⟨_, rfl⟩
        obtain ⟨g3, gg3⟩ : ∃ z, w'.heap.size = z := ⟨_, rfl⟩
        rw [gW3] at HXd HL ⊢
        rw [gg3] at HL ⊢
        clear hw' gW3 gg3
        simp only [Act.put, List.setIfInBounds_toArray, List.set_cons_zero, List.set_cons_succ]
        apply wpT_run 8 (some 51)
        · simp only [List.getElem?_toArray, List.getElem?_cons_succ, List.getElem?_cons_zero]; exact rfl
        · rfl
        · kernel_rfl
        · rfl
        intro w' hw'
        have HG8 := HCd.out.below (Ext.trans HXd.out hw')
        obtain ⟨v8, w'', hrun, ho, hb8, hg8, -⟩ := Ow.app2 (P := Try.prog) 26 26 36 i0 _ 6 48 B2 Try.underlying26 hi hz0 hz1 hz2 rfl (by decide) _ _ _ HG8.ow _ _ 1 1 _ (HL.out.bl hw') (gnC_one _) (by unfold maxLen; omega) (by omega)
        obtain ⟨A8, c8, rfl, -⟩ := ho.rds
        refine ⟨_, w'', exec_append (by rfl) (by rfl) (by rfl) hrun, ⟨hg8.os, hg8.tape, hg8.output, hg8.size, fun i hi hne => hg8.block i hi hne⟩, ?_⟩
        have HOn : RowKit.Hid (Ow w B2 36 6 (.slice A8 (i + 1) c8) (i + 1) (rowsV gnC (chainG n true (i + 1))) w'') := Lib.hid (by
          rw [chainG, HVt.out, rowsV_app]
          simpa [rowsV] using ho)
        have HBn := Lib.hid hb8
        have HCn := Lib.hid HG8
        obtain ⟨W4, gW4⟩ : ∃ z, w'' = z := ⟨_, rfl⟩
        obtain ⟨W3', gW3'⟩ : ∃ z, w' = z := ⟨_, rfl⟩
        rw [gW4] at HOn HBn ⊢
        rw [gW3'] at HBn HCn
        clear hw' HG8 hrun ho hb8 hg8 gW4 gW3' HXd HL HCd
        simp only [Act.put, List.setIfInBounds_toArray, List.set_cons_zero, List.set_cons_succ]
        apply wpT_next 9 (some 52) (by kernel_rfl)
        · simp only [List.getElem?_toArray, List.getElem?_cons_succ, List.getElem?_cons_zero]; exact rfl
        · rfl
        · kernel_rfl
        · kernel_rfl
        · kernel_rfl
        · exact fun _ _ _ _ h => h
        apply Exists.intro
        apply And.intro
        · apply yr_run; rfl; intro w' hw'; go_simp; (try with_reducible rfl)
        simp only [Act.put, List.setIfInBounds_toArray, List.set_cons_zero, List.set_cons_succ]
        apply wpT_last 10
        · simp only [List.getElem?_toArray, List.getElem?_cons_succ, List.getElem?_cons_zero]; exact rfl
        · rfl
        · kernel_rfl
        · rfl
        · decide
        intro w' hw'
        have hcl := (HCn.out.s.at_ (HBn.out.block _ hs2)).below hw'
        have hc2 := hcl.cell (i := 2) rfl
        have hf2 := hcl.free 2
        refine ⟨w'.setCell ⟨gs, 2, none⟩ (.slice A8 (i + 1) c8), ?_, ?_⟩
        · go_simp; first | done | exact rfl
        have HC10 := Lib.hid (HCn.out.store hrs hvs hs2 Hls.out (HOn.out.up hw') (HBn.out.trans (hw'.mono HOn.out.hi)) hr2 hv2)
        obtain ⟨W5, gW5⟩ : ∃ z, w'.setCell ⟨gs, 2, none⟩ (.slice A8 (i + 1) c8) = z := ⟨_, rfl⟩
        rw [gW5] at HC10 ⊢
        clear hw' hcl hc2 hf2 gW5 HCn HBn HOn
        try simp only [Act.put, List.setIfInBounds_toArray, List.set_cons_zero, List.set_cons_succ]
        refine wpT_done (by kernel_rfl) ?_ _
        intro WE hwE
        have HCE := Lib.hid (HC10.out.below hwE)
        clear hwE HC10 ld0 lt0 lt1 lt2
        go_wp2
        go_roundw
        case rel => exact ⟨i + 1, _, by omega, by go_num, HCE⟩
        case measure => simp [intOf]; omega
      · by_cases hi0 : i = 0
        · cases rd with
          | true => exact absurd ⟨hi0, rfl⟩ hz
          | false =>
            have hq0 : ((i : Int) == 0) = true := by rw [hi0]; rfl
            clear hi0
            have HVt : RowKit.Hid (vR n false (2 + (i : Int)) = (1, 1 + (i : Int), 0)) := Lib.hid (by
              rw [vR_next n (fun q => hz ⟨by omega, q.2⟩)]
              show dN (2 + (i : Int) - 1) = dN (1 + (i : Int))
              rw [show 2 + (i : Int) - 1 = 1 + (i : Int) by omega])
            have HC3 := Lib.hid ((HC.out.below hb3).below (below1 w3 (.cells #[.int .i64 1, .int .i64 (1 + (i : Int)), .int .i64 0] 32)))
            have HT3 : RowKit.Hid (Whole (w3.alloc (.cells #[.int .i64 1, .int .i64 (1 + (i : Int)), .int .i64 0] 32)) w3.heap.size 32 [.int .i64 1, .int .i64 (1 + (i : Int)), .int .i64 0]) := Lib.hid (Whole.new_ _ _ _)
            have HNe3 : RowKit.Hid (some w3.heap.size ≠ u.ownBlock) := Lib.hid ((HC.out.below hb3).ow.ne_ (Nat.le_refl _))
            clear hb3 HC
            go_upto_region 10 with fail
            obtain ⟨Wd, gWd⟩ : ∃ z, w3.alloc (.cells #[.int .i64 1, .int .i64 (1 + (i : Int)), .int .i64 0] 32) = z := ⟨_, rfl⟩
            obtain ⟨g11, gg11⟩ : ∃ z, w3.heap.size = z := ⟨_, rfl⟩
            rw [gWd] at HC3 HT3 ⊢
            rw [gg11] at HT3 HNe3 ⊢
            clear gWd gg11
            have HC := HC3
            have HT := HT3
            have HNe := HNe3
            clear HC3 HT3 HNe3
            obtain ⟨t2, gt2⟩ : ∃ z : Int, 1 + (i : Int) = z := ⟨_, rfl⟩
            rw [gt2] at HT HVt
            clear gt2
            have ld0 : ∀ w', Kept (fun i => some i = u.ownBlock) Wd.drew w' → w'.cell? ⟨gs, 2, none⟩ = some u := fun w' h => h.cell (HC.out.s.dr.cell (i := 2) rfl) (HC.out.ow.low_ne hs2)
            have lt0 : ∀ w', Kept (fun i => some i = u.ownBlock) Wd.drew w' → w'.cell? ⟨g11, 0, none⟩ = some (.int .i64 1) := fun w' h => h.cell (HT.out.dr.cell (i := 0) rfl) HNe.out
            have lt1 : ∀ w', Kept (fun i => some i = u.ownBlock) Wd.drew w' → w'.cell? ⟨g11, 1, none⟩ = some (.int .i64 t2) := fun w' h => h.cell (HT.out.dr.cell (i := 1) rfl) HNe.out
            have lt2 : ∀ w', Kept (fun i => some i = u.ownBlock) Wd.drew w' → w'.cell? ⟨g11, 2, none⟩ = some (.int .i64 0) := fun w' h => h.cell (HT.out.dr.cell (i := 2) rfl) HNe.out
            have HCd : RowKit.Hid (ChIn w B2 gr gv gs n false i u Wd.drew) := Lib.hid ⟨⟨HC.out.ow.own, HC.out.ow.below.drew, HC.out.ow.lo, HC.out.ow.hi⟩, HC.out.r.dr, HC.out.v.dr, HC.out.s.dr⟩
            clear HC HT HNe
            refine wp_region_tail ((fun i => some i = u.ownBlock)) [10] (by kernel_rfl) ?_
            apply wpT_next 0 (some 43) (by kernel_rfl)
            · simp only [List.getElem?_toArray, List.getElem?_cons_succ, List.getElem?_cons_zero]; exact rfl
            · rfl
            · kernel_rfl
            · kernel_rfl
            · kernel_rfl
            · exact fun _ _ _ _ h => h
            apply Exists.intro
            apply And.intro
            · apply yr_run; rfl; intro w' hw'; go_simp; (try with_reducible rfl)
            simp only [Act.put, List.setIfInBounds_toArray, List.set_cons_zero, List.set_cons_succ]
            apply wpT_next 1 (some 44) (by kernel_rfl)
            · simp only [List.getElem?_toArray, List.getElem?_cons_succ, List.getElem?_cons_zero]; exact rfl
            · rfl
            · kernel_rfl
            · kernel_rfl
            · kernel_rfl
            · exact fun _ _ _ _ h => h
            apply Exists.intro
            apply And.intro
            · apply yr_run; rfl; intro w' hw'; go_simp; (try with_reducible rfl)
            simp only [Act.put, List.setIfInBounds_toArray, List.set_cons_zero, List.set_cons_succ]
            apply wpT_next 2 (some 45) (by kernel_rfl)
            · simp only [List.getElem?_toArray, List.getElem?_cons_succ, List.getElem?_cons_zero]; exact rfl
            · rfl
            · kernel_rfl
            · kernel_rfl
            · kernel_rfl
            · exact fun _ _ _ _ h => h
            apply Exists.intro
            apply And.intro
            · apply yr_run; rfl; intro w' hw'; go_simp; (try with_reducible rfl)
            simp only [Act.put, List.setIfInBounds_toArray, List.set_cons_zero, List.set_cons_succ]
            apply wpT_next 3 (some 46) (by kernel_rfl)
            · simp only [List.getElem?_toArray, List.getElem?_cons_succ, List.getElem?_cons_zero]; exact rfl
            · rfl
            · kernel_rfl
            · kernel_rfl
            · kernel_rfl
            · exact fun _ _ _ _ h => h
            apply Exists.intro
            apply And.intro
            · apply yr_run; rfl; intro w' hw'; go_simp; (try with_reducible rfl)
            simp only [Act.put, List.setIfInBounds_toArray, List.set_cons_zero, List.set_cons_succ]
            apply wpT_next 4 (some 47) (by kernel_rfl)
            · simp only [List.getElem?_toArray, List.getElem?_cons_succ, List.getElem?_cons_zero]; exact rfl
            · rfl
            · kernel_rfl
            · kernel_rfl
            · kernel_rfl
            · exact fun _ _ _ _ h => h
            apply Exists.intro
            apply And.intro
            · apply yr_call; rfl; rotate_left; intro w' hw'; exact HD.out (2 + (i : Int)) w'; intro w'; go_simp
            simp only [Act.put, List.setIfInBounds_toArray, List.set_cons_zero, List.set_cons_succ]
            apply wpT_next 5 (some 48) (by kernel_rfl)
            · simp only [List.getElem?_toArray, List.getElem?_cons_succ, List.getElem?_cons_zero]; exact rfl
            · rfl
            · kernel_rfl
            · kernel_rfl
            · kernel_rfl
            · exact fun _ _ _ _ h => h
            apply Exists.intro
            apply And.intro
            · apply yr_run; rfl; intro w' hw'; go_simp; (try with_reducible rfl)
            simp only [Act.put, List.setIfInBounds_toArray, List.set_cons_zero, List.set_cons_succ]
            apply wpT_next 6 (some 49) (by kernel_rfl)
            · simp only [List.getElem?_toArray, List.getElem?_cons_succ, List.getElem?_cons_zero]; exact rfl
            · rfl
            · kernel_rfl
            · kernel_rfl
            · kernel_rfl
            · exact fun _ _ _ _ h => h
            apply Exists.intro
            apply And.intro
            · apply yr_run; rfl; intro w' hw'; go_simp; (try with_reducible rfl)
            simp only [Act.put, List.setIfInBounds_toArray, List.set_cons_zero, List.set_cons_succ]
            apply wpT_run 7 (some 50)
            · simp only [List.getElem?_toArray, List.getElem?_cons_succ, List.getElem?_cons_zero]; exact rfl
            · rfl
            · kernel_rfl
            · rfl
            intro w' hw'
            refine ⟨.slice (some ⟨w'.heap.size, 0, none⟩) 1 1, w'.alloc (.cells (gnC (dN (2 + (i : Int)), (1, t2, 0))).toArray 36), exec_buildSlice 26 36 1 #[(0, .tmp 49)] (by rfl) Try.underlying26 _ (by kernel_rfl), Kept.of_below (below1 _ _), ?_⟩
            have HXd : RowKit.Hid (Ext Wd.drew (w'.alloc (.cells (gnC (dN (2 + (i : Int)), (1, t2, 0))).toArray 36))) := Lib.hid (Ext.trans hw' (below1 _ _))
            have HL : RowKit.Hid (RdS (w'.alloc (.cells (gnC (dN (2 + (i : Int)), (1, t2, 0))).toArray 36)) (w'.alloc (.cells (gnC (dN (2 + (i : Int)), (1, t2, 0))).toArray 36)).heap.size 6 (some ⟨w'.heap.size, 0, none⟩) 1 1 (gnC (dN (2 + (i : Int)), (1, t2, 0)))) := Lib.hid (RdS.of_whole (Whole.new_ _ _ _) rfl)
            obtain ⟨W3, gW3⟩ : ∃ z, w'.alloc (.cells (gnC (dN (2 + (i : Int)), (1, t2, 0))).toArray 36) = z := ⟨_, rfl⟩
            obtain ⟨g3, gg3⟩ : ∃ z, w'.heap.size = z := ⟨_, rfl⟩
            rw [gW3] at HXd HL ⊢
            rw [gg3] at HL ⊢
            clear hw' gW3 gg3
            simp only [Act.put, List.setIfInBounds_toArray, List.set_cons_zero, List.set_cons_succ]
            apply wpT_run 8 (some 51)
            · simp only [List.getElem?_toArray, List.getElem?_cons_succ, List.getElem?_cons_zero]; exact rfl
            · rfl
            · kernel_rfl
            · rfl
            intro w' hw'
            have HG8 := HCd.out.below (Ext.trans HXd.out hw')
            obtain ⟨v8, w'', hrun, ho, hb8, hg8, -⟩ := Ow.app2 (P := Try.prog) 26 26 36 i0 _ 6 48 B2 Try.underlying26 hi hz0 hz1 hz2 rfl (by decide) _ _ _ HG8.ow _ _ 1 1 _ (HL.out.bl hw') (gnC_one _) (by unfold maxLen; omega) (by omega)
            obtain ⟨A8, c8, rfl, -⟩ := ho.rds
            refine ⟨_, w'', exec_append (by rfl) (by rfl) (by rfl) hrun, ⟨hg8.os, hg8.tape, hg8.output, hg8.size, fun i hi hne => hg8.block i hi hne⟩, ?_⟩
            have HOn : RowKit.Hid (Ow w B2 36 6 (.slice A8 (i + 1) c8) (i + 1) (rowsV gnC (chainG n false (i + 1))) w'') := Lib.hid (by
              rw [chainG, HVt.out, rowsV_app]
              simpa [rowsV] using ho)
            have HBn := Lib.hid hb8
            have HCn := Lib.hid HG8
            obtain ⟨W4, gW4⟩ : ∃ z, w'' = z := ⟨_, rfl⟩
            obtain ⟨W3', gW3'⟩ : ∃ z, w' = z := ⟨_, rfl⟩
            rw [gW4] at HOn HBn ⊢
            rw [gW3'] at HBn HCn
            clear hw' HG8 hrun ho hb8 hg8 gW4 gW3' HXd HL HCd
            simp only [Act.put, List.setIfInBounds_toArray, List.set_cons_zero, List.set_cons_succ]
            apply wpT_next 9 (some 52) (by kernel_rfl)
            · simp only [List.getElem?_toArray, List.getElem?_cons_succ, List.getElem?_cons_zero]; exact rfl
            · rfl
            · kernel_rfl
            · kernel_rfl
            · kernel_rfl
            · exact fun _ _ _ _ h => h
            apply Exists.intro
            apply And.intro
            · apply yr_run; rfl; intro w' hw'; go_simp; (try with_reducible rfl)
            simp only [Act.put, List.setIfInBounds_toArray, List.set_cons_zero, List.set_cons_succ]
            apply wpT_last 10
            · simp only [List.getElem?_toArray, List.getElem?_cons_succ, List.getElem?_cons_zero]; exact rfl
            · rfl
            · kernel_rfl
            · rfl
            · decide
            intro w' hw'
            have hcl := (HCn.out.s.at_ (HBn.out.block _ hs2)).below hw'
            have hc2 := hcl.cell (i := 2) rfl
            have hf2 := hcl.free 2
            refine ⟨w'.setCell ⟨gs, 2, none⟩ (.slice A8 (i + 1) c8), ?_, ?_⟩
            · go_simp; first | done | exact rfl
            have HC10 := Lib.hid (HCn.out.store hrs hvs hs2 Hls.out (HOn.out.up hw') (HBn.out.trans (hw'.mono HOn.out.hi)) hr2 hv2)
            obtain ⟨W5, gW5⟩ : ∃ z, w'.setCell ⟨gs, 2, none⟩ (.slice A8 (i + 1) c8) = z := ⟨_, rfl⟩
            rw [gW5] at HC10 ⊢
            clear hw' hcl hc2 hf2 gW5 HCn HBn HOn
            try simp only [Act.put, List.setIfInBounds_toArray, List.set_cons_zero, List.set_cons_succ]
            refine wpT_done (by kernel_rfl) ?_ _
            intro WE hwE
            have HCE := Lib.hid (HC10.out.below hwE)
            clear hwE HC10 ld0 lt0 lt1 lt2
            go_wp2
            go_roundw
            case rel => exact ⟨i + 1, _, by omega, by go_num, HCE⟩
            case measure => simp [intOf]; omega

        · have hq0 : ((i : Int) == 0) = false := beq_eq_false_iff_ne.2 (by omega)
          have HVt : RowKit.Hid (vR n rd (2 + (i : Int)) = (1, 1 + (i : Int), 0)) := Lib.hid (by
            rw [vR_next n (fun q => hz ⟨by omega, q.2⟩)]
            show dN (2 + (i : Int) - 1) = dN (1 + (i : Int))
            rw [show 2 + (i : Int) - 1 = 1 + (i : Int) by omega])
          have HC3 := Lib.hid ((HC.out.below hb3).below (below1 w3 (.cells #[.int .i64 1, .int .i64 (1 + (i : Int)), .int .i64 0] 32)))
          have HT3 : RowKit.Hid (Whole (w3.alloc (.cells #[.int .i64 1, .int .i64 (1 + (i : Int)), .int .i64 0] 32)) w3.heap.size 32 [.int .i64 1, .int .i64 (1 + (i : Int)), .int .i64 0]) := Lib.hid (Whole.new_ _ _ _)
          have HNe3 : RowKit.Hid (some w3.heap.size ≠ u.ownBlock) := Lib.hid ((HC.out.below hb3).ow.ne_ (Nat.le_refl _))
          clear hb3 HC
          go_upto_region 10 with fail
          obtain ⟨Wd, gWd⟩ : ∃ z, w3.alloc (.cells #[.int .i64 1, .int .i64 (1 + (i : Int)), .int .i64 0] 32) = z := ⟨_, rfl⟩
          obtain ⟨g11, gg11⟩ : ∃ z, w3.heap.size = z := ⟨_, rfl⟩
          rw [gWd] at HC3 HT3 ⊢
          rw [gg11] at HT3 HNe3 ⊢
          clear gWd gg11
          have HC := HC3
          have HT := HT3
          have HNe := HNe3
          clear HC3 HT3 HNe3
          obtain ⟨t2, gt2⟩ : ∃ z : Int, 1 + (i : Int) = z := ⟨_, rfl⟩
          rw [gt2] at HT HVt
          clear gt2
          have ld0 : ∀ w', Kept (fun i => some i = u.ownBlock) Wd.drew w' → w'.cell? ⟨gs, 2, none⟩ = some u := fun w' h => h.cell (HC.out.s.dr.cell (i := 2) rfl) (HC.out.ow.low_ne hs2)
          have lt0 : ∀ w', Kept (fun i => some i = u.ownBlock) Wd.drew w' → w'.cell? ⟨g11, 0, none⟩ = some (.int .i64 1) := fun w' h => h.cell (HT.out.dr.cell (i := 0) rfl) HNe.out
          have lt1 : ∀ w', Kept (fun i => some i = u.ownBlock) Wd.drew w' → w'.cell? ⟨g11, 1, none⟩ = some (.int .i64 t2) := fun w' h => h.cell (HT.out.dr.cell (i := 1) rfl) HNe.out
          have lt2 : ∀ w', Kept (fun i => some i = u.ownBlock) Wd.drew w' → w'.cell? ⟨g11, 2, none⟩ = some (.int .i64 0) := fun w' h => h.cell (HT.out.dr.cell (i := 2) rfl) HNe.out
          have HCd : RowKit.Hid (ChIn w B2 gr gv gs n rd i u Wd.drew) := Lib.hid ⟨⟨HC.out.ow.own, HC.out.ow.below.drew, HC.out.ow.lo, HC.out.ow.hi⟩, HC.out.r.dr, HC.out.v.dr, HC.out.s.dr⟩
          clear HC HT HNe
          refine wp_region_tail ((fun i => some i = u.ownBlock)) [10] (by kernel_rfl) ?_
          apply wpT_next 0 (some 43) (by kernel_rfl)
          · simp only [List.getElem?_toArray, List.getElem?_cons_succ, List.getElem?_cons_zero]; exact rfl
          · rfl
          · kernel_rfl
          · kernel_rfl
          · kernel_rfl
          · exact fun _ _ _ _ h => h
          apply Exists.intro
          apply And.intro
          · apply yr_run; rfl; intro w' hw'; go_simp; (try with_reducible rfl)
          simp only [Act.put, List.setIfInBounds_toArray, List.set_cons_zero, List.set_cons_succ]
          apply wpT_next 1 (some 44) (by kernel_rfl)
          · simp only [List.getElem?_toArray, List.getElem?_cons_succ, List.getElem?_cons_zero]; exact rfl
          · rfl
          · kernel_rfl
          · kernel_rfl
          · kernel_rfl
          · exact fun _ _ _ _ h => h
          apply Exists.intro
          apply And.intro
          · apply yr_run; rfl; intro w' hw'; go_simp; (try with_reducible rfl)
          simp only [Act.put, List.setIfInBounds_toArray, List.set_cons_zero, List.set_cons_succ]
          apply wpT_next 2 (some 45) (by kernel_rfl)
          · simp only [List.getElem?_toArray, List.getElem?_cons_succ, List.getElem?_cons_zero]; exact rfl
          · rfl
          · kernel_rfl
          · kernel_rfl
          · kernel_rfl
          · exact fun _ _ _ _ h => h
          apply Exists.intro
          apply And.intro
          · apply yr_run; rfl; intro w' hw'; go_simp; (try with_reducible rfl)
          simp only [Act.put, List.setIfInBounds_toArray, List.set_cons_zero, List.set_cons_succ]
          apply wpT_next 3 (some 46) (by kernel_rfl)
          · simp only [List.getElem?_toArray, List.getElem?_cons_succ, List.getElem?_cons_zero]; exact rfl
          · rfl
          · kernel_rfl
          · kernel_rfl
          · kernel_rfl
          · exact fun _ _ _ _ h => h
          apply Exists.intro
          apply And.intro
          · apply yr_run; rfl; intro w' hw'; go_simp; (try with_reducible rfl)
          simp only [Act.put, List.setIfInBounds_toArray, List.set_cons_zero, List.set_cons_succ]
          apply wpT_next 4 (some 47) (by kernel_rfl)
          · simp only [List.getElem?_toArray, List.getElem?_cons_succ, List.getElem?_cons_zero]; exact rfl
          · rfl
          · kernel_rfl
          · kernel_rfl
          · kernel_rfl
          · exact fun _ _ _ _ h => h
          apply Exists.intro
          apply And.intro
          · apply yr_call; rfl; rotate_left; intro w' hw'; exact HD.out (2 + (i : Int)) w'; intro w'; go_simp
          simp only [Act.put, List.setIfInBounds_toArray, List.set_cons_zero, List.set_cons_succ]
          apply wpT_next 5 (some 48) (by kernel_rfl)
          · simp only [List.getElem?_toArray, List.getElem?_cons_succ, List.getElem?_cons_zero]; exact rfl
          · rfl
          · kernel_rfl
          · kernel_rfl
          · kernel_rfl
          · exact fun _ _ _ _ h => h
          apply Exists.intro
          apply And.intro
          · apply yr_run; rfl; intro w' hw'; go_simp; (try with_reducible rfl)
          simp only [Act.put, List.setIfInBounds_toArray, List.set_cons_zero, List.set_cons_succ]
          apply wpT_next 6 (some 49) (by kernel_rfl)
          · simp only [List.getElem?_toArray, List.getElem?_cons_succ, List.getElem?_cons_zero]; exact rfl
          · rfl
          · kernel_rfl
          · kernel_rfl
          · kernel_rfl
          · exact fun _ _ _ _ h => h
          apply Exists.intro
          apply And.intro
          · apply yr_run; rfl; intro w' hw'; go_simp; (try with_reducible rfl)
          simp only [Act.put, List.setIfInBounds_toArray, List.set_cons_zero, List.set_cons_succ]
          apply wpT_run 7 (some 50)
          · simp only [List.getElem?_toArray, List.getElem?_cons_succ, List.getElem?_cons_zero]; exact rfl
          · rfl
          · kernel_rfl
          · rfl
          intro w' hw'
          refine ⟨.slice (some ⟨w'.heap.size, 0, none⟩) 1 1, w'.alloc (.cells (gnC (dN (2 + (i : Int)), (1, t2, 0))).toArray 36), exec_buildSlice 26 36 1 #[(0, .tmp 49)] (by rfl) Try.underlying26 _ (by kernel_rfl), Kept.of_below (below1 _ _), ?_⟩
          have HXd : RowKit.Hid (Ext Wd.drew (w'.alloc (.cells (gnC (dN (2 + (i : Int)), (1, t2, 0))).toArray 36))) := Lib.hid (Ext.trans hw' (below1 _ _))
          have HL : RowKit.Hid (RdS (w'.alloc (.cells (gnC (dN (2 + (i : Int)), (1, t2, 0))).toArray 36)) (w'.alloc (.cells (gnC (dN (2 + (i : Int)), (1, t2, 0))).toArray 36)).heap.size 6 (some ⟨w'.heap.size, 0, none⟩) 1 1 (gnC (dN (2 + (i : Int)), (1, t2, 0)))) := Lib.hid (RdS.of_whole (Whole.new_ _ _ _) rfl)
          obtain ⟨W3, gW3⟩ : ∃ z, w'.alloc (.cells (gnC (dN (2 + (i : Int)), (1, t2, 0))).toArray 36) = z := ⟨_, rfl⟩
          obtain ⟨g3, gg3⟩ : ∃ z, w'.heap.size = z := ⟨_, rfl⟩
          rw [gW3] at HXd HL ⊢
          rw [gg3] at HL ⊢
          clear hw' gW3 gg3
          simp only [Act.put, List.setIfInBounds_toArray, List.set_cons_zero, List.set_cons_succ]
          apply wpT_run 8 (some 51)
          · simp only [List.getElem?_toArray, List.getElem?_cons_succ, List.getElem?_cons_zero]; exact rfl
          · rfl
          · kernel_rfl
          · rfl
          intro w' hw'
          have HG8 := HCd.out.below (Ext.trans HXd.out hw')
          obtain ⟨v8, w'', hrun, ho, hb8, hg8, -⟩ := Ow.app2 (P := Try.prog) 26 26 36 i0 _ 6 48 B2 Try.underlying26 hi hz0 hz1 hz2 rfl (by decide) _ _ _ HG8.ow _ _ 1 1 _ (HL.out.bl hw') (gnC_one _) (by unfold maxLen; omega) (by omega)
          obtain ⟨A8, c8, rfl, -⟩ := ho.rds
          refine ⟨_, w'', exec_append (by rfl) (by rfl) (by rfl) hrun, ⟨hg8.os, hg8.tape, hg8.output, hg8.size, fun i hi hne => hg8.block i hi hne⟩, ?_⟩
          have HOn : RowKit.Hid (Ow w B2 36 6 (.slice A8 (i + 1) c8) (i + 1) (rowsV gnC (chainG n rd (i + 1))) w'') := Lib.hid (by
            rw [chainG, HVt.out, rowsV_app]
            simpa [rowsV] using ho)
          have HBn := Lib.hid hb8
          have HCn := Lib.hid HG8
          obtain ⟨W4, gW4⟩ : ∃ z, w'' = z := ⟨_, rfl⟩
          obtain ⟨W3', gW3'⟩ : ∃ z, w' = z := ⟨_, rfl⟩
          rw [gW4] at HOn HBn ⊢
          rw [gW3'] at HBn HCn
          clear hw' HG8 hrun ho hb8 hg8 gW4 gW3' HXd HL HCd
          simp only [Act.put, List.setIfInBounds_toArray, List.set_cons_zero, List.set_cons_succ]
          apply wpT_next 9 (some 52) (by kernel_rfl)
          · simp only [List.getElem?_toArray, List.getElem?_cons_succ, List.getElem?_cons_zero]; exact rfl
          · rfl
          · kernel_rfl
          · kernel_rfl
          · kernel_rfl
          · exact fun _ _ _ _ h => h
          apply Exists.intro
          apply And.intro
          · apply yr_run; rfl; intro w' hw'; go_simp; (try with_reducible rfl)
          simp only [Act.put, List.setIfInBounds_toArray, List.set_cons_zero, List.set_cons_succ]
          apply wpT_last 10
          · simp only [List.getElem?_toArray, List.getElem?_cons_succ, List.getElem?_cons_zero]; exact rfl
          · rfl
          · kernel_rfl
          · rfl
          · decide
          intro w' hw'
          have hcl := (HCn.out.s.at_ (HBn.out.block _ hs2)).below hw'
          have hc2 := hcl.cell (i := 2) rfl
          have hf2 := hcl.free 2
          refine ⟨w'.setCell ⟨gs, 2, none⟩ (.slice A8 (i + 1) c8), ?_, ?_⟩
          · go_simp; first | done | exact rfl
          have HC10 := Lib.hid (HCn.out.store hrs hvs hs2 Hls.out (HOn.out.up hw') (HBn.out.trans (hw'.mono HOn.out.hi)) hr2 hv2)
          obtain ⟨W5, gW5⟩ : ∃ z, w'.setCell ⟨gs, 2, none⟩ (.slice A8 (i + 1) c8) = z := ⟨_, rfl⟩
          rw [gW5] at HC10 ⊢
          clear hw' hcl hc2 hf2 gW5 HCn HBn HOn
          try simp only [Act.put, List.setIfInBounds_toArray, List.set_cons_zero, List.set_cons_succ]
          refine wpT_done (by kernel_rfl) ?_ _
          intro WE hwE
          have HCE := Lib.hid (HC10.out.below hwE)
          clear hwE HC10 ld0 lt0 lt1 lt2
          go_wp2
          go_roundw
          case rel => exact ⟨i + 1, _, by omega, by go_num, HCE⟩
          case measure => simp [intOf]; omega

    · obtain rfl : n = i := by omega
      obtain ⟨A, c, rfl, -⟩ := HC.out.ow.rds
      have e9 : IntKind.i64.wrap (2 + (n : Int)) = 2 + (n : Int) := IntWalk.i64_in _ (by omega)
      have e10 : ¬ (n : Int) < (n : Int) := by omega
      go_wp2_with fail
      refine (dart11_any _ _).mono ?_
      rintro e w3 ⟨rfl, hb3⟩
      have HC3 := Lib.hid ((HC.out.below hb3).below (below1 w3 (.cells #[.int .i64 1, .int .i64 1, .int .i64 0] 32)))
      have HT3 : RowKit.Hid (Whole (w3.alloc (.cells #[.int .i64 1, .int .i64 1, .int .i64 0] 32)) w3.heap.size 32 [.int .i64 1, .int .i64 1, .int .i64 0]) := Lib.hid (Whole.new_ _ _ _)
      have HL3 : RowKit.Hid (w.heap.size ≤ w3.heap.size ∧ gr < w3.heap.size ∧ gv < w3.heap.size ∧ gs < w3.heap.size) := Lib.hid ⟨(HC.out.below hb3).ow.below.size, (HC.out.below hb3).r.lt, (HC.out.below hb3).v.lt, (HC.out.below hb3).s.lt⟩
      have HNe3 : RowKit.Hid (some w3.heap.size ≠ (Value.slice A n c).ownBlock) := Lib.hid ((HC.out.below hb3).ow.ne_ (Nat.le_refl _))
      clear hb3 HC
      go_upto_if 59 with fail
      obtain ⟨Wt, gWt⟩ : ∃ z, w3.alloc (.cells #[.int .i64 1, .int .i64 1, .int .i64 0] 32) = z := ⟨_, rfl⟩
      obtain ⟨g13, gg13⟩ : ∃ z, w3.heap.size = z := ⟨_, rfl⟩
      rw [gWt] at HC3 HT3 ⊢
      rw [gg13] at HT3 HL3 HNe3 ⊢
      clear gWt gg13
      go_cut [] (fun z => ChIn w B2 gr gv gs n rd n (.slice A n c) z ∧ Whole z g13 32 (dC (wantD rd)))
      case first =>
        cases rd with
        | true =>
          have k0 := HT3.out.cell (i := 0) rfl
          have k1 := HT3.out.cell (i := 1) rfl
          have k2 := HT3.out.cell (i := 2) rfl
          have f0 := HT3.out.free 0
          have f1 := HT3.out.free 1
          have f2 := HT3.out.free 2
          have hfr : gr ≠ g13 ∧ gv ≠ g13 ∧ gs ≠ g13 ∧ some g13 ≠ (Value.slice A n c).ownBlock ∧ w.heap.size ≤ g13 := ⟨by have := HL3.out; omega, by have := HL3.out; omega, by have := HL3.out; omega, HNe3.out, HL3.out.1⟩
          have HC4 := Lib.hid (((HC3.out.far (j := 0) (.inr hfr) HL3.out.1 (.int .i64 0)).far (j := 1) (.inr hfr) HL3.out.1 (.int .i64 0)).far (j := 2) (.inr hfr) HL3.out.1 (.int .i64 0))
          have HT4 := Lib.hid (((HT3.out.set_ 0 (.int .i64 0)).set_ 1 (.int .i64 0)).set_ 2 (.int .i64 0))
          clear hfr HC3 HT3 HL3 HNe3
          go_wp2_with fail
          go_meet
          exact ⟨HC4.out, HT4.out⟩
        | false =>
          go_wp2_with fail
          go_meet
          exact ⟨HC3.out, HT3.out⟩
      case rest =>
        clear HC3 HT3 HL3 HNe3
        obtain ⟨hC, hT⟩ := hcut
        have HRk := Lib.hid (fun W hb => hC.res hn64 (K : Int) _ (ch_res gr n rd K (by omega) (by omega)) W hb)
        have HCk := Lib.hid (fun W hb => hC.corner hn64 (K : Int) _ (ch_near gr n rd K (by omega) (by omega)) W hb)
        have HR1 := Lib.hid (fun W hb => hC.res hn64 1 _ (ch_one gr n rd) W hb)
        have HR2 := Lib.hid (fun W hb => hC.res hn64 (2 + (n : Int)) _ (chain_off n rd _ (ch_st gr) n) W hb)
        obtain ⟨⟨t1, t2, t3⟩, gt⟩ : ∃ z, wantD rd = z := ⟨_, rfl⟩
        rw [gt] at HRk HCk hT
        have HC := Lib.hid hC
        have HT : RowKit.Hid (Whole wc g13 32 [.int .i64 t1, .int .i64 t2, .int .i64 t3]) := Lib.hid hT
        have HD : RowKit.Hid (∀ n w', Calls Try.prog 20 #[.int .i64 n] w' fun e w'' => e = .returned (.agg #[.int .i64 1, .int .i64 n, .int .i64 0]) ∧ Below w'.heap.size w' w'') := Lib.hid dart11_any
        clear hC hT gt
        go_upto_region 15 with fail
        obtain ⟨B3, hB3⟩ : ∃ x, wc.heap.size = x := ⟨_, rfl⟩
        have HB3 := Lib.hid hB3
        have lgs : gs < B3 := by rw [← hB3]; exact HC.out.s.lt
        have ld0 : ∀ w', Kept (From_ B3) wc.drew w' → w'.cell? ⟨gs, 0, none⟩ = some (.slice (some ⟨gv, 0, none⟩) 1 1) := fun w' h => h.from_cell lgs (HC.out.s.dr.cell (i := 0) rfl)
        have ld1 : ∀ w', Kept (From_ B3) wc.drew w' → w'.cell? ⟨gs, 1, none⟩ = some (.slice none 0 0) := fun w' h => h.from_cell lgs (HC.out.s.dr.cell (i := 1) rfl)
        have ld2 : ∀ w', Kept (From_ B3) wc.drew w' → w'.cell? ⟨gs, 2, none⟩ = some (.slice A n c) := fun w' h => h.from_cell lgs (HC.out.s.dr.cell (i := 2) rfl)
        have hk3 : ∀ w', Kept (From_ B3) wc.drew w' → Below wc.heap.size wc w' := fun w' h => bel_bl (bel_dr (Below.refl _ _)) (h.below (Nat.le_refl _) (fun i hi hs => by unfold From_ at hs; have : wc.drew.heap.size = wc.heap.size := rfl; omega))
        have Hk3 := Lib.hid hk3
        have HCo : RowKit.Hid (∀ w', Kept (From_ B3) wc.drew w' → Calls Try.prog 14 #[.agg #[.slice (some ⟨gv, 0, none⟩) 1 1, .slice none 0 0, .slice A n c], .agg #[.int .i64 1, .int .i64 1, .int .i64 1, .int .i64 (K : Int), .int .i64 0]] w' fun e w'' => e = .returned (.tuple #[.agg #[.int .i64 1, .int .i64 1, .int .i64 t1, .int .i64 t2, .int .i64 t3], .int .i64 0]) ∧ Below w'.heap.size w' w'') := Lib.hid (fun w' h => HCk.out w' (hk3 w' h))
        clear hB3 lgs hk3 HCk
        refine wp_region_reg (From_ B3) (by kernel_rfl) ?_
        apply wpR_next 0 (some 62)
        · simp only [List.getElem?_toArray, List.getElem?_cons_succ, List.getElem?_cons_zero]; exact rfl
        · rfl
        · kernel_rfl
        · kernel_rfl
        · kernel_rfl
        · exact fun _ _ _ _ h => h
        apply Exists.intro
        apply And.intro
        · apply yr_run; rfl; intro w' hw'; go_simp; (try with_reducible rfl)
        simp only [Act.put, List.setIfInBounds_toArray, List.set_cons_zero, List.set_cons_succ]
        apply wpR_next 1 (some 63)
        · simp only [List.getElem?_toArray, List.getElem?_cons_succ, List.getElem?_cons_zero]; exact rfl
        · rfl
        · kernel_rfl
        · kernel_rfl
        · kernel_rfl
        · exact fun _ _ _ _ h => h
        apply Exists.intro
        apply And.intro
        · apply yr_run; rfl; intro w' hw'; go_simp; (try with_reducible rfl)
        simp only [Act.put, List.setIfInBounds_toArray, List.set_cons_zero, List.set_cons_succ]
        apply wpR_next 2 (some 64)
        · simp only [List.getElem?_toArray, List.getElem?_cons_succ, List.getElem?_cons_zero]; exact rfl
        · rfl
        · kernel_rfl
        · kernel_rfl
        · kernel_rfl
        · exact fun _ _ _ _ h => h
        apply Exists.intro
        apply And.intro
        · apply yr_run; rfl; intro w' hw'; go_simp; (try with_reducible rfl)
        simp only [Act.put, List.setIfInBounds_toArray, List.set_cons_zero, List.set_cons_succ]
        apply wpR_next 3 (some 65)
        · simp only [List.getElem?_toArray, List.getElem?_cons_succ, List.getElem?_cons_zero]; exact rfl
        · rfl
        · kernel_rfl
        · kernel_rfl
        · kernel_rfl
        · exact fun _ _ _ _ h => h
        apply Exists.intro
        apply And.intro
        · apply yr_call; rfl; rotate_left; intro w' hw'; exact HD.out (K : Int) w'; intro w'; go_simp
        simp only [Act.put, List.setIfInBounds_toArray, List.set_cons_zero, List.set_cons_succ]
        apply wpR_next 4 (some 66)
        · simp only [List.getElem?_toArray, List.getElem?_cons_succ, List.getElem?_cons_zero]; exact rfl
        · rfl
        · kernel_rfl
        · kernel_rfl
        · kernel_rfl
        · exact fun _ _ _ _ h => h
        apply Exists.intro
        apply And.intro
        · apply yr_run; rfl; intro w' hw'; go_simp; (try with_reducible rfl)
        simp only [Act.put, List.setIfInBounds_toArray, List.set_cons_zero, List.set_cons_succ]
        apply wpR_next 5 (some 67)
        · simp only [List.getElem?_toArray, List.getElem?_cons_succ, List.getElem?_cons_zero]; exact rfl
        · rfl
        · kernel_rfl
        · kernel_rfl
        · kernel_rfl
        · exact fun _ _ _ _ h => h
        apply Exists.intro
        apply And.intro
        · apply yr_call; rfl; rotate_left; intro w' hw'; exact HCo.out w' hw'; intro w'; go_simp
        simp only [Act.put, List.setIfInBounds_toArray, List.set_cons_zero, List.set_cons_succ]
        apply wpR_next 6 (some 61)
        · simp only [List.getElem?_toArray, List.getElem?_cons_succ, List.getElem?_cons_zero]; exact rfl
        · rfl
        · kernel_rfl
        · kernel_rfl
        · kernel_rfl
        · exact fun _ _ _ _ h => h
        apply Exists.intro
        apply And.intro
        · apply yr_run; rfl; intro w' hw'; go_simp; (try with_reducible rfl)
        simp only [Act.put, List.setIfInBounds_toArray, List.set_cons_zero, List.set_cons_succ]
        apply wpR_next 7 (some 68)
        · simp only [List.getElem?_toArray, List.getElem?_cons_succ, List.getElem?_cons_zero]; exact rfl
        · rfl
        · kernel_rfl
        · kernel_rfl
        · kernel_rfl
        · exact fun _ _ _ _ h => h
        apply Exists.intro
        apply And.intro
        · apply yr_run; rfl; intro w' hw'; go_simp; (try with_reducible rfl)
        simp only [Act.put, List.setIfInBounds_toArray, List.set_cons_zero, List.set_cons_succ]
        apply wpR_next 8 (some 69)
        · simp only [List.getElem?_toArray, List.getElem?_cons_succ, List.getElem?_cons_zero]; exact rfl
        · rfl
        · kernel_rfl
        · kernel_rfl
        · kernel_rfl
        · exact fun _ _ _ _ h => h
        apply Exists.intro
        apply And.intro
        · apply yr_run; rfl; intro w' hw'; go_simp; (try with_reducible rfl)
        simp only [Act.put, List.setIfInBounds_toArray, List.set_cons_zero, List.set_cons_succ]
        apply wpR_run 9 (some 14)
        · simp only [List.getElem?_toArray, List.getElem?_cons_succ, List.getElem?_cons_zero]; exact rfl
        · rfl
        · kernel_rfl
        · rfl
        intro w' hw'
        refine ⟨.pointer (some ⟨w'.heap.size, 0, none⟩), w'.alloc (.cells #[.int .i64 0, .int .i64 0, .int .i64 0, .int .i64 0, .int .i64 0] 34), ?_, Kept.of_below (below1 _ _), ?_⟩
        · go_simp
        have HK1 : RowKit.Hid (Kept (From_ B3) wc.drew (w'.alloc (.cells #[.int .i64 0, .int .i64 0, .int .i64 0, .int .i64 0, .int .i64 0] 34))) := Lib.hid ((Kept.of_ext hw').trans (Kept.of_below (below1 _ _)))
        have HW1 : RowKit.Hid (Whole (w'.alloc (.cells #[.int .i64 0, .int .i64 0, .int .i64 0, .int .i64 0, .int .i64 0] 34)) w'.heap.size 34 [.int .i64 0, .int .i64 0, .int .i64 0, .int .i64 0, .int .i64 0]) := Lib.hid (Whole.new_ _ _ [.int .i64 0, .int .i64 0, .int .i64 0, .int .i64 0, .int .i64 0])
        have HL1 : RowKit.Hid (B3 ≤ w'.heap.size) := Lib.hid (by have := hw'.size; have h2 : wc.drew.heap.size = wc.heap.size := rfl; have := HB3.out; omega)
        obtain ⟨W5, gW5⟩ : ∃ z, w'.alloc (.cells #[.int .i64 0, .int .i64 0, .int .i64 0, .int .i64 0, .int .i64 0] 34) = z := ⟨_, rfl⟩
        obtain ⟨g14, gg5⟩ : ∃ z, w'.heap.size = z := ⟨_, rfl⟩
        rw [gW5] at HK1 HW1 ⊢
        rw [gg5] at HW1 HL1 ⊢
        clear hw' gW5 gg5
        simp only [Act.put, List.setIfInBounds_toArray, List.set_cons_zero, List.set_cons_succ]
        apply wpR_store 10
        · simp only [List.getElem?_toArray, List.getElem?_cons_succ, List.getElem?_cons_zero]; exact rfl
        · rfl
        · kernel_rfl
        · rfl
        intro w' hw'
        refine ⟨w'.setRow g14 ([.int .i64 1, .int .i64 1, .int .i64 t1, .int .i64 t2, .int .i64 t3]).toArray, store_row_run 34 (.tmp 14) (.tmp 68) rfl g14 rfl ([.int .i64 1, .int .i64 1, .int .i64 t1, .int .i64 t2, .int .i64 t3]) rfl 34 [.int .i64 0, .int .i64 0, .int .i64 0, .int .i64 0, .int .i64 0] (HW1.out.bl hw') (by kernel_rfl) rfl (by simp [Value.oneCell']), kept_row (show B3 ≤ g14 from HL1.out) _, ?_⟩
        have HK2 : RowKit.Hid (Kept (From_ B3) wc.drew (w'.setRow g14 ([.int .i64 1, .int .i64 1, .int .i64 t1, .int .i64 t2, .int .i64 t3]).toArray)) := Lib.hid ((HK1.out.trans (Kept.of_ext hw')).trans (kept_row (show B3 ≤ g14 from HL1.out) _))
        have HX14 : RowKit.Hid (Whole (w'.setRow g14 ([.int .i64 1, .int .i64 1, .int .i64 t1, .int .i64 t2, .int .i64 t3]).toArray) g14 34 ([.int .i64 1, .int .i64 1, .int .i64 t1, .int .i64 t2, .int .i64 t3])) := Lib.hid (Whole.row (HW1.out.bl hw') ([.int .i64 1, .int .i64 1, .int .i64 t1, .int .i64 t2, .int .i64 t3]))
        obtain ⟨W6, gW6⟩ : ∃ z, w'.setRow g14 ([.int .i64 1, .int .i64 1, .int .i64 t1, .int .i64 t2, .int .i64 t3]).toArray = z := ⟨_, rfl⟩
        rw [gW6] at HK2 HX14 ⊢
        clear hw' gW6 HK1 HW1
        try simp only [Act.put, List.setIfInBounds_toArray, List.set_cons_zero, List.set_cons_succ]
        apply wpR_next 11 (some 15)
        · simp only [List.getElem?_toArray, List.getElem?_cons_succ, List.getElem?_cons_zero]; exact rfl
        · rfl
        · kernel_rfl
        · kernel_rfl
        · kernel_rfl
        · exact fun _ _ _ _ h => h
        apply Exists.intro
        apply And.intro
        · apply yr_run; rfl; intro w' hw'; go_simp; (try with_reducible rfl)
        simp only [Act.put, List.setIfInBounds_toArray, List.set_cons_zero, List.set_cons_succ]
        refine wpR_done (by kernel_rfl) ?_ _
        intro W7 hw7
        have HBk := Lib.hid (bel_bl (Hk3.out _ HK2.out) hw7)
        have HC7 := Lib.hid (HC.out.below HBk.out)
        have HT7 := Lib.hid (HT.out.below HBk.out)
        have HX7 := Lib.hid (HX14.out.below hw7)
        have HRk7 : RowKit.Hid (∀ w', Kept Nil_ W7.drew w' → Calls Try.prog 10 #[.agg #[.slice (some ⟨gv, 0, none⟩) 1 1, .slice none 0 0, .slice A n c], .agg #[.int .i64 1, .int .i64 (K : Int), .int .i64 0]] w' fun e w'' => e = .returned (.agg #[.int .i64 t1, .int .i64 t2, .int .i64 t3]) ∧ Below w'.heap.size w' w'') := Lib.hid (fun w' h => HRk.out w' (bel_bl (bel_dr HBk.out) (h.below (Nat.le_refl _) (fun _ _ h => h))))
        have HR17 : RowKit.Hid (∀ w', Kept Nil_ W7.drew w' → Calls Try.prog 10 #[.agg #[.slice (some ⟨gv, 0, none⟩) 1 1, .slice none 0 0, .slice A n c], .agg #[.int .i64 1, .int .i64 1, .int .i64 0]] w' fun e w'' => e = .returned (.agg #[.int .i64 1, .int .i64 1, .int .i64 0]) ∧ Below w'.heap.size w' w'') := Lib.hid (fun w' h => HR1.out w' (bel_bl (bel_dr HBk.out) (h.below (Nat.le_refl _) (fun _ _ h => h))))
        have HR27 : RowKit.Hid (∀ w', Kept Nil_ W7.drew w' → Calls Try.prog 10 #[.agg #[.slice (some ⟨gv, 0, none⟩) 1 1, .slice none 0 0, .slice A n c], .agg #[.int .i64 1, .int .i64 (2 + (n : Int)), .int .i64 0]] w' fun e w'' => e = .returned (.agg #[.int .i64 0, .int .i64 0, .int .i64 0]) ∧ Below w'.heap.size w' w'') := Lib.hid (fun w' h => HR2.out w' (bel_bl (bel_dr HBk.out) (h.below (Nat.le_refl _) (fun _ _ h => h))))
        clear hw7 HK2 HX14 HC HT HRk HR1 HR2 ld0 ld1 ld2 HCo Hk3 HBk
        go_upto_region 16 with fail
        have la0 : ∀ w', Kept Nil_ W7.drew w' → w'.cell? ⟨gs, 0, none⟩ = some (.slice (some ⟨gv, 0, none⟩) 1 1) := fun w' h => h.nil_cell (HC7.out.s.dr.cell (i := 0) rfl)
        have la1 : ∀ w', Kept Nil_ W7.drew w' → w'.cell? ⟨gs, 1, none⟩ = some (.slice none 0 0) := fun w' h => h.nil_cell (HC7.out.s.dr.cell (i := 1) rfl)
        have la2 : ∀ w', Kept Nil_ W7.drew w' → w'.cell? ⟨gs, 2, none⟩ = some (.slice A n c) := fun w' h => h.nil_cell (HC7.out.s.dr.cell (i := 2) rfl)
        have lb0 : ∀ w', Kept Nil_ W7.drew w' → w'.cell? ⟨g13, 0, none⟩ = some (.int .i64 t1) := fun w' h => h.nil_cell (HT7.out.dr.cell (i := 0) rfl)
        have lb1 : ∀ w', Kept Nil_ W7.drew w' → w'.cell? ⟨g13, 1, none⟩ = some (.int .i64 t2) := fun w' h => h.nil_cell (HT7.out.dr.cell (i := 1) rfl)
        have lb2 : ∀ w', Kept Nil_ W7.drew w' → w'.cell? ⟨g13, 2, none⟩ = some (.int .i64 t3) := fun w' h => h.nil_cell (HT7.out.dr.cell (i := 2) rfl)
        have lc2 : ∀ w', Kept Nil_ W7.drew w' → w'.cell? ⟨g14, 2, none⟩ = some (.int .i64 t1) := fun w' h => h.nil_cell (HX7.out.dr.cell (i := 2) rfl)
        have lc3 : ∀ w', Kept Nil_ W7.drew w' → w'.cell? ⟨g14, 3, none⟩ = some (.int .i64 t2) := fun w' h => h.nil_cell (HX7.out.dr.cell (i := 3) rfl)
        have lc4 : ∀ w', Kept Nil_ W7.drew w' → w'.cell? ⟨g14, 4, none⟩ = some (.int .i64 t3) := fun w' h => h.nil_cell (HX7.out.dr.cell (i := 4) rfl)
        have heqT : ∀ W, (binOp .eql 32 (.agg #[.int .i64 t1, .int .i64 t2, .int .i64 t3]) (.agg #[.int .i64 t1, .int .i64 t2, .int .i64 t3])).run Try.prog W = .ok (.bool true) W := fun W => by
          have e := eq_dart_run (t1, t2, t3) (t1, t2, t3) W
          rw [decide_eq_true rfl] at e
          exact e
        have heq1 : ∀ W, (binOp .eql 32 (.agg #[.int .i64 1, .int .i64 1, .int .i64 0]) (.agg #[.int .i64 1, .int .i64 1, .int .i64 0])).run Try.prog W = .ok (.bool true) W := fun W => by
          have e := eq_dart_run (1, 1, 0) (1, 1, 0) W
          rw [decide_eq_true rfl] at e
          exact e
        have heq0 : ∀ W, (binOp .eql 32 (.agg #[.int .i64 0, .int .i64 0, .int .i64 0]) (.agg #[.int .i64 0, .int .i64 0, .int .i64 0])).run Try.prog W = .ok (.bool true) W := fun W => by
          have e := eq_dart_run (0, 0, 0) (0, 0, 0) W
          rw [decide_eq_true rfl] at e
          exact e
        refine wp_region_reg (Nil_) (by kernel_rfl) ?_
        apply wpR_next 0 (some 70)
        · simp only [List.getElem?_toArray, List.getElem?_cons_succ, List.getElem?_cons_zero]; exact rfl
        · rfl
        · kernel_rfl
        · kernel_rfl
        · kernel_rfl
        · exact fun _ _ _ _ h => h
        apply Exists.intro
        apply And.intro
        · apply yr_run; rfl; intro w' hw'; go_simp; (try with_reducible rfl)
        simp only [Act.put, List.setIfInBounds_toArray, List.set_cons_zero, List.set_cons_succ]
        apply wpR_next 1 (some 71)
        · simp only [List.getElem?_toArray, List.getElem?_cons_succ, List.getElem?_cons_zero]; exact rfl
        · rfl
        · kernel_rfl
        · kernel_rfl
        · kernel_rfl
        · exact fun _ _ _ _ h => h
        apply Exists.intro
        apply And.intro
        · apply yr_run; rfl; intro w' hw'; go_simp; (try with_reducible rfl)
        simp only [Act.put, List.setIfInBounds_toArray, List.set_cons_zero, List.set_cons_succ]
        apply wpR_next 2 (some 72)
        · simp only [List.getElem?_toArray, List.getElem?_cons_succ, List.getElem?_cons_zero]; exact rfl
        · rfl
        · kernel_rfl
        · kernel_rfl
        · kernel_rfl
        · exact fun _ _ _ _ h => h
        apply Exists.intro
        apply And.intro
        · apply yr_run; rfl; intro w' hw'; go_simp; (try with_reducible rfl)
        simp only [Act.put, List.setIfInBounds_toArray, List.set_cons_zero, List.set_cons_succ]
        apply wpR_next 3 (some 73)
        · simp only [List.getElem?_toArray, List.getElem?_cons_succ, List.getElem?_cons_zero]; exact rfl
        · rfl
        · kernel_rfl
        · kernel_rfl
        · kernel_rfl
        · exact fun _ _ _ _ h => h
        apply Exists.intro
        apply And.intro
        · apply yr_run; rfl; intro w' hw'; go_simp; (try with_reducible rfl)
        simp only [Act.put, List.setIfInBounds_toArray, List.set_cons_zero, List.set_cons_succ]
        apply wpR_next 4 (some 74)
        · simp only [List.getElem?_toArray, List.getElem?_cons_succ, List.getElem?_cons_zero]; exact rfl
        · rfl
        · kernel_rfl
        · kernel_rfl
        · kernel_rfl
        · exact fun _ _ _ _ h => h
        apply Exists.intro
        apply And.intro
        · apply yr_call; rfl; rotate_left; intro w' hw'; exact HD.out (K : Int) w'; intro w'; go_simp
        simp only [Act.put, List.setIfInBounds_toArray, List.set_cons_zero, List.set_cons_succ]
        apply wpR_next 5 (some 75)
        · simp only [List.getElem?_toArray, List.getElem?_cons_succ, List.getElem?_cons_zero]; exact rfl
        · rfl
        · kernel_rfl
        · kernel_rfl
        · kernel_rfl
        · exact fun _ _ _ _ h => h
        apply Exists.intro
        apply And.intro
        · apply yr_call; rfl; rotate_left; intro w' hw'; exact HRk7.out w' hw'; intro w'; go_simp
        simp only [Act.put, List.setIfInBounds_toArray, List.set_cons_zero, List.set_cons_succ]
        apply wpR_next 6 (some 76)
        · simp only [List.getElem?_toArray, List.getElem?_cons_succ, List.getElem?_cons_zero]; exact rfl
        · rfl
        · kernel_rfl
        · kernel_rfl
        · kernel_rfl
        · exact fun _ _ _ _ h => h
        apply Exists.intro
        apply And.intro
        · apply yr_run; rfl; intro w' hw'; go_simp; (try with_reducible rfl)
        simp only [Act.put, List.setIfInBounds_toArray, List.set_cons_zero, List.set_cons_succ]
        apply wpR_next 7 (some 77)
        · simp only [List.getElem?_toArray, List.getElem?_cons_succ, List.getElem?_cons_zero]; exact rfl
        · rfl
        · kernel_rfl
        · kernel_rfl
        · kernel_rfl
        · exact fun _ _ _ _ h => h
        apply Exists.intro
        apply And.intro
        · exact yr_run (by rfl) (fun w' hw' => exec_binop_agg .eql 32 (.tmp 75) (.tmp 76) 32 rfl rfl rfl (by kernel_rfl) (heqT w'))
        simp only [Act.put, List.setIfInBounds_toArray, List.set_cons_zero, List.set_cons_succ]
        apply wpR_next 8 (some 78)
        · simp only [List.getElem?_toArray, List.getElem?_cons_succ, List.getElem?_cons_zero]; exact rfl
        · rfl
        · kernel_rfl
        · kernel_rfl
        · kernel_rfl
        · exact fun _ _ _ _ h => h
        apply Exists.intro
        apply And.intro
        · apply yr_run; rfl; intro w' hw'; go_simp; (try with_reducible rfl)
        simp only [Act.put, List.setIfInBounds_toArray, List.set_cons_zero, List.set_cons_succ]
        apply wpR_next 9 (some 79)
        · simp only [List.getElem?_toArray, List.getElem?_cons_succ, List.getElem?_cons_zero]; exact rfl
        · rfl
        · kernel_rfl
        · kernel_rfl
        · kernel_rfl
        · exact fun _ _ _ _ h => h
        apply Exists.intro
        apply And.intro
        · apply yr_run; rfl; intro w' hw'; go_simp; (try with_reducible rfl)
        simp only [Act.put, List.setIfInBounds_toArray, List.set_cons_zero, List.set_cons_succ]
        apply wpR_next 10 (some 80)
        · simp only [List.getElem?_toArray, List.getElem?_cons_succ, List.getElem?_cons_zero]; exact rfl
        · rfl
        · kernel_rfl
        · kernel_rfl
        · kernel_rfl
        · exact fun _ _ _ _ h => h
        apply Exists.intro
        apply And.intro
        · apply yr_run; rfl; intro w' hw'; go_simp; (try with_reducible rfl)
        simp only [Act.put, List.setIfInBounds_toArray, List.set_cons_zero, List.set_cons_succ]
        apply wpR_next 11 (some 81)
        · simp only [List.getElem?_toArray, List.getElem?_cons_succ, List.getElem?_cons_zero]; exact rfl
        · rfl
        · kernel_rfl
        · kernel_rfl
        · kernel_rfl
        · exact fun _ _ _ _ h => h
        apply Exists.intro
        apply And.intro
        · apply yr_run; rfl; intro w' hw'; go_simp; (try with_reducible rfl)
        simp only [Act.put, List.setIfInBounds_toArray, List.set_cons_zero, List.set_cons_succ]
        apply wpR_next 12 (some 82)
        · simp only [List.getElem?_toArray, List.getElem?_cons_succ, List.getElem?_cons_zero]; exact rfl
        · rfl
        · kernel_rfl
        · kernel_rfl
        · kernel_rfl
        · exact fun _ _ _ _ h => h
        apply Exists.intro
        apply And.intro
        · apply yr_run; rfl; intro w' hw'; go_simp; (try with_reducible rfl)
        simp only [Act.put, List.setIfInBounds_toArray, List.set_cons_zero, List.set_cons_succ]
        apply wpR_next 13 (some 83)
        · simp only [List.getElem?_toArray, List.getElem?_cons_succ, List.getElem?_cons_zero]; exact rfl
        · rfl
        · kernel_rfl
        · kernel_rfl
        · kernel_rfl
        · exact fun _ _ _ _ h => h
        apply Exists.intro
        apply And.intro
        · apply yr_run; rfl; intro w' hw'; go_simp; (try with_reducible rfl)
        simp only [Act.put, List.setIfInBounds_toArray, List.set_cons_zero, List.set_cons_succ]
        apply wpR_next 14 (some 84)
        · simp only [List.getElem?_toArray, List.getElem?_cons_succ, List.getElem?_cons_zero]; exact rfl
        · rfl
        · kernel_rfl
        · kernel_rfl
        · kernel_rfl
        · exact fun _ _ _ _ h => h
        apply Exists.intro
        apply And.intro
        · apply yr_run; rfl; intro w' hw'; go_simp; (try with_reducible rfl)
        simp only [Act.put, List.setIfInBounds_toArray, List.set_cons_zero, List.set_cons_succ]
        apply wpR_next 15 (some 85)
        · simp only [List.getElem?_toArray, List.getElem?_cons_succ, List.getElem?_cons_zero]; exact rfl
        · rfl
        · kernel_rfl
        · kernel_rfl
        · kernel_rfl
        · exact fun _ _ _ _ h => h
        apply Exists.intro
        apply And.intro
        · apply yr_run; rfl; intro w' hw'; go_simp; (try with_reducible rfl)
        simp only [Act.put, List.setIfInBounds_toArray, List.set_cons_zero, List.set_cons_succ]
        apply wpR_next 16 (some 86)
        · simp only [List.getElem?_toArray, List.getElem?_cons_succ, List.getElem?_cons_zero]; exact rfl
        · rfl
        · kernel_rfl
        · kernel_rfl
        · kernel_rfl
        · exact fun _ _ _ _ h => h
        apply Exists.intro
        apply And.intro
        · apply yr_run; rfl; intro w' hw'; go_simp; (try with_reducible rfl)
        simp only [Act.put, List.setIfInBounds_toArray, List.set_cons_zero, List.set_cons_succ]
        apply wpR_next 17 (some 87)
        · simp only [List.getElem?_toArray, List.getElem?_cons_succ, List.getElem?_cons_zero]; exact rfl
        · rfl
        · kernel_rfl
        · kernel_rfl
        · kernel_rfl
        · exact fun _ _ _ _ h => h
        apply Exists.intro
        apply And.intro
        · exact yr_run (by rfl) (fun w' hw' => exec_binop_agg .eql 32 (.tmp 85) (.tmp 86) 32 rfl rfl rfl (by kernel_rfl) (heqT w'))
        simp only [Act.put, List.setIfInBounds_toArray, List.set_cons_zero, List.set_cons_succ]
        apply wpR_next 18 (some 88)
        · simp only [List.getElem?_toArray, List.getElem?_cons_succ, List.getElem?_cons_zero]; exact rfl
        · rfl
        · kernel_rfl
        · kernel_rfl
        · kernel_rfl
        · exact fun _ _ _ _ h => h
        apply Exists.intro
        apply And.intro
        · apply yr_run; rfl; intro w' hw'; go_simp; (try with_reducible rfl)
        simp only [Act.put, List.setIfInBounds_toArray, List.set_cons_zero, List.set_cons_succ]
        apply wpR_next 19 (some 89)
        · simp only [List.getElem?_toArray, List.getElem?_cons_succ, List.getElem?_cons_zero]; exact rfl
        · rfl
        · kernel_rfl
        · kernel_rfl
        · kernel_rfl
        · exact fun _ _ _ _ h => h
        apply Exists.intro
        apply And.intro
        · apply yr_run; rfl; intro w' hw'; go_simp; (try with_reducible rfl)
        simp only [Act.put, List.setIfInBounds_toArray, List.set_cons_zero, List.set_cons_succ]
        apply wpR_next 20 (some 90)
        · simp only [List.getElem?_toArray, List.getElem?_cons_succ, List.getElem?_cons_zero]; exact rfl
        · rfl
        · kernel_rfl
        · kernel_rfl
        · kernel_rfl
        · exact fun _ _ _ _ h => h
        apply Exists.intro
        apply And.intro
        · apply yr_run; rfl; intro w' hw'; go_simp; (try with_reducible rfl)
        simp only [Act.put, List.setIfInBounds_toArray, List.set_cons_zero, List.set_cons_succ]
        apply wpR_next 21 (some 91)
        · simp only [List.getElem?_toArray, List.getElem?_cons_succ, List.getElem?_cons_zero]; exact rfl
        · rfl
        · kernel_rfl
        · kernel_rfl
        · kernel_rfl
        · exact fun _ _ _ _ h => h
        apply Exists.intro
        apply And.intro
        · apply yr_call; rfl; rotate_left; intro w' hw'; exact HD.out 1 w'; intro w'; go_simp
        simp only [Act.put, List.setIfInBounds_toArray, List.set_cons_zero, List.set_cons_succ]
        apply wpR_next 22 (some 92)
        · simp only [List.getElem?_toArray, List.getElem?_cons_succ, List.getElem?_cons_zero]; exact rfl
        · rfl
        · kernel_rfl
        · kernel_rfl
        · kernel_rfl
        · exact fun _ _ _ _ h => h
        apply Exists.intro
        apply And.intro
        · apply yr_call; rfl; rotate_left; intro w' hw'; exact HR17.out w' hw'; intro w'; go_simp
        simp only [Act.put, List.setIfInBounds_toArray, List.set_cons_zero, List.set_cons_succ]
        apply wpR_next 23 (some 93)
        · simp only [List.getElem?_toArray, List.getElem?_cons_succ, List.getElem?_cons_zero]; exact rfl
        · rfl
        · kernel_rfl
        · kernel_rfl
        · kernel_rfl
        · exact fun _ _ _ _ h => h
        apply Exists.intro
        apply And.intro
        · apply yr_call; rfl; rotate_left; intro w' hw'; exact HD.out 1 w'; intro w'; go_simp
        simp only [Act.put, List.setIfInBounds_toArray, List.set_cons_zero, List.set_cons_succ]
        apply wpR_next 24 (some 94)
        · simp only [List.getElem?_toArray, List.getElem?_cons_succ, List.getElem?_cons_zero]; exact rfl
        · rfl
        · kernel_rfl
        · kernel_rfl
        · kernel_rfl
        · exact fun _ _ _ _ h => h
        apply Exists.intro
        apply And.intro
        · exact yr_run (by rfl) (fun w' hw' => exec_binop_agg .eql 32 (.tmp 92) (.tmp 93) 32 rfl rfl rfl (by kernel_rfl) (heq1 w'))
        simp only [Act.put, List.setIfInBounds_toArray, List.set_cons_zero, List.set_cons_succ]
        apply wpR_next 25 (some 95)
        · simp only [List.getElem?_toArray, List.getElem?_cons_succ, List.getElem?_cons_zero]; exact rfl
        · rfl
        · kernel_rfl
        · kernel_rfl
        · kernel_rfl
        · exact fun _ _ _ _ h => h
        apply Exists.intro
        apply And.intro
        · apply yr_run; rfl; intro w' hw'; go_simp; (try with_reducible rfl)
        simp only [Act.put, List.setIfInBounds_toArray, List.set_cons_zero, List.set_cons_succ]
        apply wpR_next 26 (some 96)
        · simp only [List.getElem?_toArray, List.getElem?_cons_succ, List.getElem?_cons_zero]; exact rfl
        · rfl
        · kernel_rfl
        · kernel_rfl
        · kernel_rfl
        · exact fun _ _ _ _ h => h
        apply Exists.intro
        apply And.intro
        · apply yr_run; rfl; intro w' hw'; go_simp; (try with_reducible rfl)
        simp only [Act.put, List.setIfInBounds_toArray, List.set_cons_zero, List.set_cons_succ]
        apply wpR_next 27 (some 97)
        · simp only [List.getElem?_toArray, List.getElem?_cons_succ, List.getElem?_cons_zero]; exact rfl
        · rfl
        · kernel_rfl
        · kernel_rfl
        · kernel_rfl
        · exact fun _ _ _ _ h => h
        apply Exists.intro
        apply And.intro
        · apply yr_run; rfl; intro w' hw'; go_simp; (try with_reducible rfl)
        simp only [Act.put, List.setIfInBounds_toArray, List.set_cons_zero, List.set_cons_succ]
        apply wpR_next 28 (some 98)
        · simp only [List.getElem?_toArray, List.getElem?_cons_succ, List.getElem?_cons_zero]; exact rfl
        · rfl
        · kernel_rfl
        · kernel_rfl
        · kernel_rfl
        · exact fun _ _ _ _ h => h
        apply Exists.intro
        apply And.intro
        · apply yr_run; rfl; intro w' hw'; go_simp; (try with_reducible rfl)
        simp only [Act.put, List.setIfInBounds_toArray, List.set_cons_zero, List.set_cons_succ]
        apply wpR_next 29 (some 99)
        · simp only [List.getElem?_toArray, List.getElem?_cons_succ, List.getElem?_cons_zero]; exact rfl
        · rfl
        · kernel_rfl
        · kernel_rfl
        · kernel_rfl
        · exact fun _ _ _ _ h => h
        apply Exists.intro
        apply And.intro
        · apply yr_run; rfl; intro w' hw'; go_simp; (try with_reducible rfl)
        simp only [Act.put, List.setIfInBounds_toArray, List.set_cons_zero, List.set_cons_succ]
        apply wpR_next 30 (some 100)
        · simp only [List.getElem?_toArray, List.getElem?_cons_succ, List.getElem?_cons_zero]; exact rfl
        · rfl
        · kernel_rfl
        · kernel_rfl
        · kernel_rfl
        · exact fun _ _ _ _ h => h
        apply Exists.intro
        apply And.intro
        · apply yr_call; rfl; rotate_left; intro w' hw'; exact HD.out (2 + (n : Int)) w'; intro w'; go_simp
        simp only [Act.put, List.setIfInBounds_toArray, List.set_cons_zero, List.set_cons_succ]
        apply wpR_next 31 (some 101)
        · simp only [List.getElem?_toArray, List.getElem?_cons_succ, List.getElem?_cons_zero]; exact rfl
        · rfl
        · kernel_rfl
        · kernel_rfl
        · kernel_rfl
        · exact fun _ _ _ _ h => h
        apply Exists.intro
        apply And.intro
        · apply yr_call; rfl; rotate_left; intro w' hw'; exact HR27.out w' hw'; intro w'; go_simp
        simp only [Act.put, List.setIfInBounds_toArray, List.set_cons_zero, List.set_cons_succ]
        apply wpR_next 32 (some 102)
        · simp only [List.getElem?_toArray, List.getElem?_cons_succ, List.getElem?_cons_zero]; exact rfl
        · rfl
        · kernel_rfl
        · kernel_rfl
        · kernel_rfl
        · exact fun _ _ _ _ h => h
        apply Exists.intro
        apply And.intro
        · apply yr_run; rfl; intro w' hw'; go_simp; (try with_reducible rfl)
        simp only [Act.put, List.setIfInBounds_toArray, List.set_cons_zero, List.set_cons_succ]
        apply wpR_next 33 (some 103)
        · simp only [List.getElem?_toArray, List.getElem?_cons_succ, List.getElem?_cons_zero]; exact rfl
        · rfl
        · kernel_rfl
        · kernel_rfl
        · kernel_rfl
        · exact fun _ _ _ _ h => h
        apply Exists.intro
        apply And.intro
        · exact yr_run (by rfl) (fun w' hw' => exec_binop_agg .eql 32 (.tmp 101) (.tmp 102) 32 rfl rfl rfl (by kernel_rfl) (heq0 w'))
        simp only [Act.put, List.setIfInBounds_toArray, List.set_cons_zero, List.set_cons_succ]
        apply wpR_next 34 (some 104)
        · simp only [List.getElem?_toArray, List.getElem?_cons_succ, List.getElem?_cons_zero]; exact rfl
        · rfl
        · kernel_rfl
        · kernel_rfl
        · kernel_rfl
        · exact fun _ _ _ _ h => h
        apply Exists.intro
        apply And.intro
        · apply yr_run; rfl; intro w' hw'; go_simp; (try with_reducible rfl)
        simp only [Act.put, List.setIfInBounds_toArray, List.set_cons_zero, List.set_cons_succ]
        apply wpR_next 35 (some 6)
        · simp only [List.getElem?_toArray, List.getElem?_cons_succ, List.getElem?_cons_zero]; exact rfl
        · rfl
        · kernel_rfl
        · kernel_rfl
        · kernel_rfl
        · exact fun _ _ _ _ h => h
        apply Exists.intro
        apply And.intro
        · apply yr_run; rfl; intro w' hw'; go_simp; (try with_reducible rfl)
        simp only [Act.put, List.setIfInBounds_toArray, List.set_cons_zero, List.set_cons_succ]
        refine wpR_done (by kernel_rfl) ?_ _
        intro W9 hw9
        have HB9 := Lib.hid (bel_bl (bel_bl HC7.out.ow.below (bel_dr (Below.refl _ _))) hw9)
        clear hw9 la0 la1 la2 lb0 lb1 lb2 lc2 lc3 lc4 heqT heq1 heq0
        go_wp2
        go_ret
        exact ⟨rfl, HB9.out⟩
end Go.Proofs.Ytkhklhipiiehbaa

/- Words for all layers, in one text. -/
namespace Go.Proofs.Ytkhklhipiiehbaa
open Go.ChangeShapes Go.WideShapes Go.ChangeAt Go.RowKit

section
variable {H : Type} {enc : TypeId × Value → H} {P : Program}

/-- A row of arguments reads as it did where below the old heap's end nothing has turned. -/
theorem trodAll_stays (hl : laidOutB P = true) {W W' : World} (hb : Below W.heap.size W W') : ∀ (ts : List TypeId) (vs : List Value) (ds : List (DataW H)) (ps : List MemPlace) (sp : Nat → Bool),
    (∀ t ∈ ts, P.readableRec t = true ∧ t < P.types.size) → DataW.TrodAll enc P W 0 (fun _ => true) true ts vs ds ps →
    (∀ p ∈ ps, p.block < W.heap.size) → (∀ p ∈ ps, sp p.block = true) → DataW.TrodAll enc P W' 0 sp true ts vs ds ps
  | [], _, _, _, _, _, h, _, _ => by
    obtain ⟨rfl, rfl, rfl⟩ := trodAll_nil h
    exact rfl
  | t :: ts, vs, ds, ps, sp, ht, h, hlt, hs => by
    obtain ⟨v, vs', d, ds', p, q, rfl, rfl, rfl, h1, h2⟩ := trodAll_cons h
    have ⟨hr, hrow⟩ := ht t (by simp)
    refine ⟨p, q, WideElems.Trod_stays hl hr hrow h1 (fun x hx => hb.same (hlt x (by simp [hx]))) (fun x hx => hs x (by simp [hx])), ?_, rfl⟩
    exact trodAll_stays hl hb ts vs' ds' q sp (fun t' h' => ht t' (by simp [h'])) h2 (fun x hx => hlt x (by simp [hx])) (fun x hx => hs x (by simp [hx]))

/-- A law's post. -/
theorem law_post {f : Func} {s : ChangeSpec} {tb : TypeId} {W W' : World} {args : Array Value} {ds gs : List (DataW H)} {before : List MemPlace}
    (hl : laidOutB P = true) (hts : f.params.toList.all (fun t => P.readableRec t && decide (t < P.types.size)) = true) (hr : f.resultTypes = #[tb]) (htb : P.underlying tb = some .bool) (hv : s.vars = [])
    (hfn : (s.fn H (ds ++ gs)).results = [.lit (.bool true)] ∧ (s.fn H (ds ++ gs)).args = ds ∧ (s.fn H (ds ++ gs)).vars = [])
    (hW : DataW.Whole enc P f.params.toList s.vars false W args.toList ds gs before) (hb : Below W.heap.size W W') :
    s.post enc P f false true false false W args (.bool true) W' := by
  have hts' : ∀ t ∈ f.params.toList, P.readableRec t = true ∧ t < P.types.size := fun t ht => by
    have h := List.all_eq_true.1 hts t ht
    simpa using h
  have hlt : ∀ p ∈ before, p.block < W.heap.size := fun p hp => hW.lt p hp
  have hW' := hW
  obtain ⟨p, q, hA, hV, rfl, hfz, hnd⟩ := hW
  rw [hv] at hV
  obtain ⟨rfl, rfl⟩ := trodVars_none hV
  obtain ⟨e1, e2, e3⟩ := hfn
  refine ⟨ds, [], p ++ [], [], p, [], hW', ?_, ?_, ?_, ?_, fun h => by cases h⟩
  · rw [e1, hr]
    exact trodAll_mk1 (shut_bool htb _)
  · rw [e2]
    exact trodAll_stays hl hb _ _ _ _ _ hts' hA (fun x hx => hlt x (by simp [hx])) (fun x hx => by simpa using hlt x (by simp [hx]))
  · rw [e3, hv]
    rfl
  · exact World.keptBut_mono (fun x hx => ⟨hx, by simpa using hx⟩) (hb.frame (· ∈ p ++ []))
end
end Go.Proofs.Ytkhklhipiiehbaa

/- A law's arguments opened: types that are flat rows of int; what such a value is. -/
namespace Go.Proofs.Ytkhklhipiiehbaa
open Go.ChangeShapes Go.WideShapes Go.ChangeAt Go.RowKit

section
variable {H : Type} {P : Program}

end
end Go.Proofs.Ytkhklhipiiehbaa

/- The laws' types as rows of int; what the row's shutting asks of the program. -/
namespace Go.Proofs.Ytkhklhipiiehbaa
open Go.ChangeShapes Go.WideShapes Go.ChangeAt Go.RowKit

theorem Try.own : ownKnob Try.prog.godebug = none := by kernel_rfl
theorem Try.laidOut : laidOutB Try.prog = true := by kernel_rfl

end Go.Proofs.Ytkhklhipiiehbaa

/- A law's slice argument opened: its elements are rows of ints, or bytes. -/
namespace Go.Proofs.Ytkhklhipiiehbaa
open Go.ChangeShapes Go.WideShapes Go.ChangeAt Go.RowKit Go.Deep

section
variable {H : Type} {P : Program}

end
end Go.Proofs.Ytkhklhipiiehbaa

/- A law's arguments opened, by the type: ints, bools, texts, slices, structs of these. -/
namespace Go.Proofs.Ytkhklhipiiehbaa
open Go.ChangeShapes Go.WideShapes Go.ChangeAt Go.RowKit Go.Deep

section
variable {H : Type} {P : Program} {α β : Type}

end
end Go.Proofs.Ytkhklhipiiehbaa

/- 'AnchorChains' answers true for any numbers, whether the row comes round or not.
   No condition beyond the row's own. -/
namespace Go.Proofs.Ytkhklhipiiehbaa
open Go.ChangeShapes Go.WideShapes Go.ChangeAt Go.RowKit
namespace lawAnchorChains

set_option maxRecDepth 100000 in
theorem contract (H : Type) (enc : TypeId × Value → H) (W : World) (base : Nat) (args : Array Value) (ds gs : List (DataW H)) (before : List MemPlace)
    (hval : ∀ (j : Nat) t v, Try.f6.params[j]? = some t → args[j]? = some v → Value.okWide Try.prog W .any base t v)
    (hW : DataW.Whole enc Try.prog Try.f6.params.toList Rows.anchorChainsSpec.vars false W args.toList ds gs before) :
    Calls Try.prog 6 args W fun e W' => ∃ v, e = .returned v ∧ Rows.anchorChainsSpec.post enc Try.prog Try.f6 false true false false W args v W' := by
  have hW' := hW
  obtain ⟨p, q, hA, hV, rfl, hfz, hnd⟩ := hW
  obtain ⟨rfl, rfl⟩ := trodVars_none hV
  rw [Try.params6] at hA hval
  obtain ⟨v0, v1, v2, d0, d1, d2, p0, p1, p2, rfl, rfl, rfl, h0, h1, h2⟩ := trodAll_three hA
  obtain ⟨x, rfl, h0b, -⟩ := open_int Try.underlying3 (hval 0 3 v0 rfl rfl) h0
  obtain ⟨y, rfl, h1b, -⟩ := open_int Try.underlying3 (hval 1 3 v1 rfl rfl) h1
  obtain ⟨z, rfl, -⟩ := open_bool Try.underlying4 (hval 2 4 v2 rfl rfl) h2
  refine (law_chains x y z W).mono fun e W' ⟨he, hb⟩ => ⟨_, he, ?_⟩
  exact law_post Try.laidOut (by kernel_rfl) (tb := 4) (by kernel_rfl) Try.underlying4 rfl ⟨rfl, rfl, rfl⟩ hW' hb

set_option maxRecDepth 100000 in
theorem lifted (os : Os) (started : os.Started) (H : Type) (enc : TypeId × Value → H) :
    ReturnsInHanded {} Try.checked os 6 .any (Rows.anchorChainsSpec.pre6 enc Try.prog Try.f6 Rows.anchorChainsRow.domain false) (Rows.anchorChainsSpec.post enc Try.prog Try.f6 false true false false) := by
  refine returnsInHanded_of_change (C := Try.checked) Try.own started (by kernel_rfl) Try.func6
    (ChangeSpec.witness6 (enc := enc) (C := Try.checked) false ⟨#[], #[.int .i64 0, .int .i64 0, .bool false], []⟩ 8 (by kernel_rfl) (by kernel_rfl) (by kernel_rfl) (by kernel_rfl)) ?_
  intro W base args ds gs before hval hW _ _
  exact contract H enc W base args ds gs before hval hW

theorem proved : Rows.AnchorChainsSaid :=
  OpenClaim.holds_of_wide 6 Try.f6 rfl rfl rfl rfl rfl rfl rfl ⟨rfl, rfl, rfl, rfl, rfl⟩ rfl rfl rfl rfl rfl (by kernel_rfl) Try.func6 (by kernel_rfl)
    (of_decide_eq_true (by kernel_rfl)) (by unfold Func.isWrapper; first | (rw [if_pos (by decide +kernel)]; kernel_rfl) | (rw [if_neg (by decide +kernel)]; exact ⟨rfl, rfl⟩))
    (fun os started H enc _ => lifted os started H enc)
end lawAnchorChains
end Go.Proofs.Ytkhklhipiiehbaa
