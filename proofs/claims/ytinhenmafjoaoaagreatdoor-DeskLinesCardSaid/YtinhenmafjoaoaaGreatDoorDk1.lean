/- Numbers as texts, a line of them. -/
import Derived.Test.YtinhenmafjoaoaaGreatDoorDk0
import Derived.Test.YtinhenmafjoaoaaGreatDoorShelf
import Derived.Test.YtinhenmafjoaoaaGreatDoorBase
import Derived.Laws.Strings
import Derived.Lib.AppendIntMem
import Derived.Laws.Concat
namespace Go.Proofs.YtinhenmafjoaoaaGreatDoor
open Go.RowKit
set_option linter.unusedSimpArgs false
set_option linter.unusedVariables false

/-- The library's table of powers stands, whatever is done above the world's blocks. -/
def Tb (W : World) : Prop := Lib.TabBelow Tryz.prog W.heap.size W "internal/strconv.uint64pow10" .u64 Lib.pow10Tab
theorem Tb.bl {W W' : World} (h : Tb W) (hb : Below W.heap.size W W') : Tb W' := fun w' h' => h w' (hb.trans (h'.mono hb.size))
theorem below_grow (w : World) (k : Nat) (os : Array Obj) : Below w.heap.size w (Sort.grow (w.drewN k) os) :=
  ⟨rfl, rfl, rfl, by simp [Sort.grow], fun i hi => by
    show ((w.drewN k).heap ++ os)[i]? = _
    rw [Array.getElem?_append_left (by show i < w.heap.size; omega)]
    rfl⟩
theorem itoa_any (n : Int) (hn : I64 n) (w : World) (ht : Tb w) : Calls Tryz.prog 13 #[.int .i64 n] w fun e w' => e = .returned (.string (bS (Lib.itoa n))) ∧ Below w.heap.size w w' := by
  refine (Tryz.strconv_Itoa n hn.1 hn.2 w ht.here).mono ?_
  rintro e w' ⟨rfl, k, os, rfl⟩
  exact ⟨rfl, below_grow w k os⟩
def s1 (s : ByteArray) : List Value := [.string s]
theorem s1_len (s : ByteArray) : (s1 s).length = 1 := rfl
theorem s1_one (s : ByteArray) : ∀ u ∈ s1 s, u.oneCell' = true := by simp [s1, Value.oneCell']
def i1 (n : Int) : List Value := [.int .i64 n]
theorem i1_len (n : Int) : (i1 n).length = 1 := rfl
theorem info_str : (Tryz.prog.info? 9).map (fun i => (i.zero, i.size, i.bytes)) = some (some (.string ⟨#[]⟩), 1, 16) := by kernel_rfl
theorem pushS {w W : World} {lo : Nat} {A : Option Addr} {n c : Nat} {T : List ByteArray} (how : Ow w lo 9 1 (.slice A n c) n (rowsV s1 T) W) (x : ByteArray) (hn : n ≤ 2000) :
    ∃ A' c' W', (Builtin.append_ #[52, 52] 52 #[.slice A n c, .slice (some ⟨W.heap.size, 0, none⟩) 1 1]).run Tryz.prog (W.alloc (.cells #[.string x] 9)) = .ok (.slice A' (n + 1) c') W' ∧ Ow w lo 9 1 (.slice A' (n + 1) c') (n + 1) (rowsV s1 (T ++ [x])) W' ∧ Below lo W W' := by
  obtain ⟨i, hi, hz0, hz1, hz2⟩ := info_parts_ info_str
  obtain ⟨v', W', hrun, ho, hb⟩ := Ow.app (P := Tryz.prog) 52 52 9 i _ 1 16 lo Tryz.underlying52 hi hz0 hz1 hz2 rfl (by decide) _ _ _ (how.up (below1 W (.cells #[.string x] 9))) _ _ 1 1 _ (RdS.of_whole (Whole.new_ W 9 (s1 x)) rfl) (s1_one x) (by unfold maxLen; omega) (by omega)
  rw [show rowsV s1 T ++ s1 x = rowsV s1 (T ++ [x]) by rw [rowsV_app]; simp [rowsV]] at ho
  obtain ⟨A', c', rfl, -⟩ := ho.rds
  exact ⟨A', c', W', hrun, ho, ((below1 W _).mono how.hi).trans hb⟩
def wds (L : List Int) : List ByteArray := L.map (fun n => bS (Lib.itoa n))
set_option maxRecDepth 100000 in
set_option maxHeartbeats 4000000 in
theorem line_any (A : Option Addr) (n c : Nat) (L : List Int) (w : World) (h : RdS w w.heap.size 1 A n c (rowsV i1 L)) (hL : ∀ x ∈ L, I64 x) (h0 : 0 < n) (hn : n ≤ 100) (ht : Tb w) :
    Calls Tryz.prog 10 #[.slice A n c] w fun e w' => e = .returned (.string (bS (lineB L))) ∧ Below w.heap.size w w' := by
  have hl : L.length = n := h.rlen i1_len (by decide)
  obtain ⟨bb, off, rfl, hbB, hpl⟩ := h.place i1_len (by decide) h0
  have HP := Lib.hid hpl
  have HL := Lib.hid hL
  have Hl := Lib.hid hl
  have HT := Lib.hid ht
  have HB := Lib.hid hbB
  clear h hpl hL hl ht hbB
  have HO0 : RowKit.Hid (Ow w w.heap.size 9 1 (.slice none 0 0) 0 (rowsV s1 []) w) := Lib.hid ⟨World.ownsRow_nil _ _ _ _, Below.refl _ _, Nat.le_refl _, Nat.le_refl _⟩
  go_enter Tryz.func10, Tryz.ntmps10
  go_upto_region 3 with fail
  go_loopw [3, 8] (fun vs vi wr => ∃ (j : Nat) (A2 : Option Addr) (c2 : Nat), j ≤ n ∧ vs = .slice A2 j c2 ∧ vi = .int .i64 (j : Int) ∧ RowKit.Hid (Ow w w.heap.size 9 1 (.slice A2 j c2) j (rowsV s1 (wds (L.take j))) wr)) (fun _ vi _ => n - (intOf vi).toNat)
  case atStart => exact ⟨0, none, 0, Nat.zero_le _, rfl, rfl, HO0⟩
  case round =>
    clear HO0
    obtain ⟨j, A2, c2, hj, rfl, rfl, HO⟩ := hrel
    obtain ⟨wo, gwo⟩ : ∃ z, wr = z := ⟨_, rfl⟩
    rw [gwo] at HO ⊢
    clear gwo
    by_cases hjn : j < n
    · have hji : (j : Int) < (n : Int) := by omega
      obtain ⟨x, hx⟩ : ∃ x, L[j]? = some x := ⟨_, List.getElem?_eq_getElem (by have := Hl.out; omega)⟩
      have c0 : wo.cell? ⟨bb, off + j, none⟩ = some (.int .i64 x) := by
        have q := HP.out j x hx 0 _ rfl
        simp only [Addr.add_lit, Nat.add_zero, Nat.mul_one] at q
        exact (HO.out.below.cell (p := ⟨bb, off + j, none⟩) HB.out).trans q
      have hx64 := HL.out x (List.mem_of_getElem? hx)
      have HX := Lib.hid hx
      have HIt := Lib.hid (fun W (hb : Below w.heap.size w W) => itoa_any x hx64 W (HT.out.bl hb))
      obtain ⟨t, gt⟩ : ∃ z, bS (Lib.itoa x) = z := ⟨_, rfl⟩
      have HN : RowKit.Hid (wds (L.take (j + 1)) = wds (L.take j) ++ [t]) := Lib.hid (by unfold wds; rw [take_snoc_ L j x hx, List.map_append, ← gt]; rfl)
      rw [gt] at HIt
      clear hx hx64 gt
      go_wp2_with (first
        | (go_at_call 13
           refine (HIt.out _ HO.out.below).mono ?_
           rintro e w2 ⟨rfl, hb2⟩
           obtain ⟨A3, c3, W3, hrun, ho3, hb3⟩ := pushS (HO.out.up hb2) t (by omega)
           have Hrun := Lib.hid hrun
           have HO3 := Lib.hid ho3
           clear hrun ho3 hb3 hb2 c0)
        | (at_builtin
           refine wpList_app rfl (.tmp 12) (.tmp 15) _ rfl rfl rfl Hrun.out ?_
           clear Hrun))
      go_roundw
      case rel => exact ⟨j + 1, A3, c3, by omega, rfl, by go_num, by rw [HN.out]; exact HO3⟩
      case measure => simp [intOf]; omega
    · obtain rfl : n = j := by omega
      have HJ : RowKit.Hid (∀ W, Below w.heap.size w W → RdS W W.heap.size 1 A2 n c2 (rowsV s1 (wds L)) → Calls Tryz.prog 19 #[.slice A2 n c2, .string { data := #[32] }] W fun e w' => e = .returned (.string (bS (Lib.join (L.map Lib.itoa) [32]))) ∧ Below W.heap.size W w') := Lib.hid (fun W hb hr => by
        obtain ⟨b2, o2, rfl, hb2, hp2⟩ := hr.place s1_len (by decide) h0
        have hw : (wds L).length = n := hr.rlen s1_len (by decide)
        have hj := join_le L HL.out
        have := Tryz.strings_Join b2 o2 c2 (wds L) { data := #[32] } W (fun j x hx => by
          have q := hp2 j x hx 0 _ rfl
          simpa only [Addr.add_lit, Nat.add_zero, Nat.mul_one] using q) hb2 (by omega) (by have := hr.le; omega) (by
          rw [show (wds L).map (·.data.toList) = L.map Lib.itoa by unfold wds; rw [List.map_map]; rfl]
          show (Lib.join (L.map Lib.itoa) [32]).length ≤ _
          have := Hl.out
          omega)
        rw [hw, show (wds L).map (·.data.toList) = L.map Lib.itoa by unfold wds; rw [List.map_map]; rfl] at this
        exact this)
      have HR : RowKit.Hid (RdS wo wo.heap.size 1 A2 n c2 (rowsV s1 (wds L))) := Lib.hid (by
        have := own_rds HO.out.own
        rwa [List.take_of_length_le (by have := Hl.out; omega)] at this)
      have HBo := Lib.hid HO.out.below
      have HE : RowKit.Hid (bS (Lib.join (L.map Lib.itoa) [32]) ++ { data := #[10] } = bS (lineB L)) := Lib.hid (bS_app _ [10])
      have hts : (bS (Lib.join (L.map Lib.itoa) [32])).size ≤ 2200 := by
        rw [bS_size]
        have := join_le L HL.out
        have := Hl.out
        omega
      obtain ⟨t, gt⟩ : ∃ z, bS (Lib.join (L.map Lib.itoa) [32]) = z := ⟨_, rfl⟩
      rw [gt] at HJ HE hts
      have hadd : ∀ W, (Op.stringOp .add t { data := #[10] }).run Tryz.prog W = .ok (.string (bS (lineB L))) W := fun W => by
        rw [run_string_add_sum (P := Tryz.prog) (w := W) t { data := #[10] } (by show t.size + 1 ≤ _; omega), HE.out]
      clear gt HO HP HL hts HE
      go_wp2_with (go_at_call 19; refine (HJ.out _ HBo.out HR.out).mono ?_; rintro e w2 ⟨rfl, hb2⟩)
      go_ret
      exact ⟨rfl, HBo.out.trans (hb2.mono HBo.out.size)⟩
end Go.Proofs.YtinhenmafjoaoaaGreatDoor
