/- Several texts in one. -/
import Derived.Test.YtinfbaflkjghhaaSCA
import Derived.Test.YtinfbaflkjghhaaSCH
import Derived.Test.YtinfbaflkjghhaaShelf
import Derived.Test.YtinfbaflkjghhaaSCF
import Derived.Deep.CutBlock
import Derived.RangeFuncNested
import Derived.RangeFuncBound
import Derived.RangeFuncCalls
import Derived.RangeFuncLeaves
import Derived.Shelf.Abstract
import Derived.Shelf.RegionOpen
import Derived.WalkKit
import Derived.OwnWalkIn
import Derived.TacticsInMore
import Derived.LoopNIn
import Derived.LoopIn
import Derived.Sort.CutIn
/- Bytes as digits; the builder's WriteByte; the document's digits. -/
set_option linter.unusedSimpArgs false
set_option linter.unusedVariables false
namespace Go.Proofs.Ytinfbaflkjghhaa
open Go.RowKit
def hxd (d : Nat) : Nat := if d < 10 then 48 + d else 87 + d
theorem hxd_lt {d : Nat} (h : d < 16) : hxd d < 256 := by unfold hxd; split <;> omega
/-- Bytes as digits, the higher first. -/
def dgs (B : List Nat) : List Nat := B.flatMap (fun b => [hxd (b / 16), hxd (b % 16)])
theorem dgs_len (B : List Nat) : (dgs B).length = 2 * B.length := by
  induction B with
  | nil => rfl
  | cons b B ih => unfold dgs at *; simp [ih]; omega
theorem dgs_lt {B : List Nat} (hb : ∀ b ∈ B, b < 256) : ∀ c ∈ dgs B, c < 256 := fun c hc => by
  obtain ⟨b, hbm, hc⟩ := List.mem_flatMap.1 hc
  have := hb b hbm
  simp only [List.mem_cons, List.not_mem_nil, or_false] at hc
  rcases hc with rfl | rfl
  · exact hxd_lt (by omega)
  · exact hxd_lt (by omega)
theorem dgs_next {B : List Nat} {k b : Nat} (h : B[k]? = some b) : dgs (B.take (k + 1)) = dgs (B.take k) ++ [hxd (b / 16), hxd (b % 16)] := by
  rw [List.take_add_one, h]
  simp [dgs, List.flatMap_append]
theorem hex_at {d : Nat} (h : d < 16) : ({ data := #[48, 49, 50, 51, 52, 53, 54, 55, 56, 57, 97, 98, 99, 100, 101, 102] } : ByteArray)[d]? = some (UInt8.ofNat (hxd d)) := by
  have : d = 0 ∨ d = 1 ∨ d = 2 ∨ d = 3 ∨ d = 4 ∨ d = 5 ∨ d = 6 ∨ d = 7 ∨ d = 8 ∨ d = 9 ∨ d = 10 ∨ d = 11 ∨ d = 12 ∨ d = 13 ∨ d = 14 ∨ d = 15 := by omega
  rcases this with rfl | rfl | rfl | rfl | rfl | rfl | rfl | rfl | rfl | rfl | rfl | rfl | rfl | rfl | rfl | rfl <;> rfl
theorem idx_hex (k : IntKind) (d : Nat) (hd : d < 16) (W : World) : (Instr.index 9 (.string { data := #[48, 49, 50, 51, 52, 53, 54, 55, 56, 57, 97, 98, 99, 100, 101, 102] }) (.int k (d : Int))).run Try.prog W = .ok (.int .u8 (hxd d : Int)) W := by
  simp only [Instr.index, asIntOf, Sem.run_bind, Sem.run_pure, Result.andThen_ok, run_underlying (Try.underlying9)]
  rw [if_pos (by omega), Int.toNat_natCast, hex_at hd]
  simp only [Sem.run_pure]
  have := hxd_lt hd
  congr 3
  simp [Nat.mod_eq_of_lt this]
theorem txt_data (L : List Nat) : (txt L).data.toList = L.map UInt8.ofNat := by
  have := txt_list L
  rwa [ByteArray.toList_eq] at this
theorem ba_ext {a b : ByteArray} (h : a.data.toList = b.data.toList) : a = b := by
  cases a; cases b
  simp only [ByteArray.mk.injEq]
  exact Array.toList_inj.1 h
theorem txt_app (L M : List Nat) : txt L ++ txt M = txt (L ++ M) := ba_ext (by
  rw [txt_data, List.map_append, ← txt_data, ← txt_data]
  simp)
theorem txt_mk (L : List Nat) : (⟨(L.map UInt8.ofNat).toArray⟩ : ByteArray) = txt L := ba_ext (by rw [txt_data])
theorem bytes_rows {L : List Nat} (h : ∀ b ∈ L, b < 256) : Lib.byteCells (L.map UInt8.ofNat) = rowsV f8 L := by
  rw [rowsV_map8]
  unfold Lib.byteCells
  rw [List.map_map]
  refine List.map_congr_left fun b hb => ?_
  have := h b hb
  simp [Nat.mod_eq_of_lt this]
/-- A builder that holds bytes. -/
structure Bld (lo : Nat) (W : World) (g : Nat) (p v : Value) (X : List Nat) : Prop where
  cells : Whole W g 64 [p, v]
  ptr : p = .pointer none ∨ p = .pointer (some ⟨g, 0, none⟩)
  row : W.ownsRow lo 5 1 v X.length (rowsV f8 X)
  lo : lo ≤ g
theorem Bld.bl {lo g : Nat} {W W' : World} {p v : Value} {X : List Nat} (h : Bld lo W g p v X) (hb : Below W.heap.size W W') : Bld lo W' g p v X := ⟨h.cells.bl hb, h.ptr, own_up h.row hb, h.lo⟩
theorem info_bld : (Try.prog.info? 64).map (·.size) = some 2 := by kernel_rfl
set_option maxRecDepth 100000 in
theorem ccheck_any (g : Nat) (p v : Value) (w : World) (h : Whole w g 64 [p, v]) (hp : p = .pointer none ∨ p = .pointer (some ⟨g, 0, none⟩)) :
    Calls Try.prog 49 #[.pointer (some ⟨g, 0, none⟩)] w fun e w' => e = .returned (.tuple #[]) ∧ ((p = .pointer none ∧ w' = w.setCell ⟨g, 0, none⟩ (.pointer (some ⟨g, 0, none⟩))) ∨ (p = .pointer (some ⟨g, 0, none⟩) ∧ w' = w)) := by
  obtain ⟨j, hj, hjs⟩ := Option.map_eq_some_iff.1 info_bld
  have h0 := h.cell (i := 0) rfl
  have hfz := h.free 0
  rcases hp with rfl | rfl
  · have hsh : w.shape? g = some (64, 2) := by unfold Whole at h; simp [World.shape?, h]
    go_enter Try.func49, Try.ntmps49
    go_wp2
    rw [Lib.run_to_unsafe w ⟨g, 0, none⟩ Try.underlying62 Try.underlying113 hj (by rw [hjs]; decide) hsh (Nat.zero_lt_succ 1)]
    simp only [Result.andThen]
    rw [Oper.upon_value]
    go_wp2
    rw [run_callFunc_extern Try.func68 (by kernel_rfl) (by kernel_rfl) (by kernel_rfl) (e := Extern.AbiNoEscape.same) (by kernel_rfl)]
    rw [Lib.run_noEscape]
    simp only [Result.andThen]
    rw [Oper.upon_value]
    go_wp2
    rw [Lib.run_from_unsafe w ⟨g, 0, none⟩ Try.underlying113 Try.underlying62 hj hsh (by kernel_rfl)]
    simp only [Result.andThen]
    rw [Oper.upon_value]
    go_wp2
    go_end0
    refine ⟨rfl, ?_⟩
    simp
  · go_enter Try.func49, Try.ntmps49
    go_wp2
    rw [Lib.run_neq_ptr_same w _ Try.underlying62 hj]
    go_wp2
    go_end0
    refine ⟨rfl, ?_⟩
    simp
set_option maxRecDepth 100000 in
set_option maxHeartbeats 4000000 in
theorem wb_any (lo g : Nat) (p v : Value) (X : List Nat) (b : Nat) (w : World) (h : Bld lo w g p v X) (hn : X.length ≤ 100000000) :
    Calls Try.prog 29 #[.pointer (some ⟨g, 0, none⟩), .int .u8 (b : Int)] w fun e w' => ∃ v', e = .returned .nilIface ∧ Bld lo w' g (.pointer (some ⟨g, 0, none⟩)) v' (X ++ [b]) ∧ Kept (fun i => i = g ∨ some i = v.ownBlock) w w' ∧ (v'.ownBlock = v.ownBlock ∨ ∀ i, v'.ownBlock = some i → w.heap.size ≤ i) := by
  obtain ⟨i0, hi, hz0, hz1, hz2⟩ := info_parts_ info_u8
  have H := Lib.hid h
  clear h
  go_enter Try.func29, Try.ntmps29
  go_wp2_with fail
  refine (ccheck_any g p v w H.out.cells H.out.ptr).mono ?_
  rintro e w1 ⟨rfl, hw⟩
  have hne : some g ≠ v.ownBlock := own_ne_ H.out.row H.out.cells (by decide)
  have h1 : Whole w1 g 64 [.pointer (some ⟨g, 0, none⟩), v] ∧ w1.ownsRow lo 5 1 v X.length (rowsV f8 X) ∧ Kept (fun i => i = g ∨ some i = v.ownBlock) w w1 ∧ w1.heap.size = w.heap.size := by
    rcases hw with ⟨rfl, rfl⟩ | ⟨rfl, rfl⟩
    · exact ⟨H.out.cells.set_ 0 _, own_cell_far H.out.row hne _, Kept.setCell (Kept.refl _ w) (p := ⟨g, 0, none⟩) (.inl (.inl rfl)) _, by simp [World.setCell]⟩
    · exact ⟨H.out.cells, H.out.row, Kept.refl _ _, rfl⟩
  obtain ⟨hc1, hr1, hk1, hs1⟩ := h1
  have hlo1 : lo ≤ w1.heap.size := by have := H.out.lo; have := hc1.lt; omega
  have hr2 := own_up hr1 (below1 w1 (.cells #[.int .u8 (b : Int)] 5))
  have hob := one8 w1 b
  have hc2 := hc1.al (.cells #[.int .u8 (b : Int)] 5)
  have hk2 := hk1.alloc (.cells #[.int .u8 (b : Int)] 5)
  have hs2 : (w1.alloc (.cells #[.int .u8 (b : Int)] 5)).heap.size = w.heap.size + 1 := by simp [hs1]
  have HX0 := H.out.row.1
  obtain ⟨N, gN⟩ : ∃ z, X.length = z := ⟨_, rfl⟩
  rw [gN] at hr2
  have hN : N ≤ 100000000 := by omega
  obtain ⟨v', w3, hrun, hown, hgr, -, hob2⟩ := run_append_own_at (P := Try.prog) (w1.alloc (.cells #[.int .u8 (b : Int)] 5)) lo 23 23 5 i0 _ 1 1 Try.underlying23 hi hz0 hz1 hz2 rfl (by decide) v N _ hr2 ⟨w1.heap.size, 0, none⟩ 1 1 _ hob.len (hob.cell _ rfl) (f8_all _) (by unfold maxLen; omega) (by omega) (by rw [hs2]; omega)
  obtain ⟨Av, cv, rfl, -⟩ := RdS.of_own hown
  rw [← rows8_app] at hown
  have hc3 := hc2.grown hgr hne
  have c1 := hc1.cell (i := 1) rfl
  have d1 := hc3.cell (i := 1) rfl
  have f1 := hc3.free 1
  have hne3 : some g ≠ (Value.slice Av (N + 1) cv).ownBlock := own_ne_ hown hc3 (by decide)
  have HRun := Lib.hid hrun
  have HC : RowKit.Hid (Bld lo (w3.setCell ⟨g, 1, none⟩ (.slice Av (N + 1) cv)) g (.pointer (some ⟨g, 0, none⟩)) (.slice Av (N + 1) cv) (X ++ [b])) := Lib.hid ⟨hc3.set_ 1 _, .inr rfl, by rw [List.length_append, gN]; exact own_cell_far hown hne3 _, H.out.lo⟩
  have HK : RowKit.Hid (Kept (fun i => i = g ∨ some i = v.ownBlock) w (w3.setCell ⟨g, 1, none⟩ (.slice Av (N + 1) cv))) := Lib.hid (Kept.setCell (hk2.trans (kept_grow hgr (fun i hi => .inr hi))) (p := ⟨g, 1, none⟩) (.inl (.inl rfl)) _)
  have HOb : RowKit.Hid ((Value.slice Av (N + 1) cv).ownBlock = v.ownBlock ∨ ∀ i, (Value.slice Av (N + 1) cv).ownBlock = some i → w.heap.size ≤ i) := Lib.hid (hob2.imp id (fun h i hi => by rw [h] at hi; injection hi with hi; omega))
  clear hrun hown hgr hob2 hc3 hne3 hc1 hr1 hk1 hs1 hr2 hob hc2 hk2 hs2 hlo1 HX0 hw hne gN
  go_wp2_with (first
    | (at_builtin
       refine wpList_app rfl (.tmp 11) (.tmp 13) _ rfl rfl rfl HRun.out ?_))
  go_ret
  exact ⟨_, rfl, HC.out, HK.out, HOb.out⟩
set_option maxRecDepth 100000 in
set_option maxHeartbeats 4000000 in
theorem digs_any (A : Option Addr) (n c : Nat) (B : List Nat) (w : World) (hl : B.length = n) (h : RdS w w.heap.size 1 A n c (rowsV f8 B)) (hn : n ≤ 100000) (hb : ∀ b ∈ B, b < 256) :
    Calls Try.prog 31 #[.slice A n c] w fun e w' => e = .returned (.string (txt (dgs B))) ∧ Below w.heap.size w w' := by
  have H := Lib.hid h
  have Hl := Lib.hid hl
  have Hb := Lib.hid hb
  clear h hl hb
  go_enter Try.func31, Try.ntmps31
  go_upto_region 3 with fail
  obtain ⟨wS, gwS⟩ : ∃ z, w.alloc (.cells #[] 5) = z := ⟨_, rfl⟩
  have HO0 : RowKit.Hid (Ow w w.heap.size 5 1 (.slice (some ⟨w.heap.size, 0, none⟩) 0 0) 0 (rowsV f8 (dgs (B.take 0))) wS) := Lib.hid (gwS ▸ Ow.new_ (cs := #[]) (Below.refl _ _) (Nat.le_refl _) (Nat.le_refl _) (Nat.zero_le _) rfl)
  obtain ⟨Az, gAz⟩ : ∃ z : Option Addr, some (⟨w.heap.size, 0, none⟩ : Addr) = z := ⟨_, rfl⟩
  rw [gwS, gAz]
  rw [gAz] at HO0
  clear gwS gAz
  go_loopw [3, 4] (fun v i wr => ∃ (k m : Nat) (A1 : Option Addr) (c1 : Nat), k ≤ n ∧ m = 2 * k ∧ v = .slice A1 m c1 ∧ i = .int .i64 (k : Int) ∧ RowKit.Hid (Ow w w.heap.size 5 1 (.slice A1 m c1) m (rowsV f8 (dgs (B.take k))) wr)) (fun _ i _ => n - (intOf i).toNat)
  case atStart => exact ⟨0, 0, Az, 0, Nat.zero_le _, rfl, rfl, rfl, HO0⟩
  case round =>
    clear HO0
    obtain ⟨k, m, A1, c1, hk, hm, rfl, rfl, HO⟩ := hrel
    obtain ⟨wo, gwo⟩ : ∃ z, wr = z := ⟨_, rfl⟩
    rw [gwo] at HO ⊢
    clear gwo
    by_cases hlt : k < n
    · have hltI : (k : Int) < (n : Int) := by omega
      obtain ⟨b, hx⟩ : ∃ b, B[k]? = some b := ⟨_, List.getElem?_eq_getElem (by have := Hl.out; omega)⟩
      have hb8 : b < 256 := Hb.out b (List.mem_of_getElem? hx)
      have hN := dgs_next hx
      have hd1 : b / 16 < 16 := by omega
      have hd2 : b % 16 < 16 := by omega
      have hi1 := fun W => idx_hex .u8 (b / 16) hd1 W
      have hi2 := fun W => idx_hex .u8 (b % 16) hd2 W
      obtain ⟨h1, gh1⟩ : ∃ z, hxd (b / 16) = z := ⟨_, rfl⟩
      obtain ⟨h2, gh2⟩ : ∃ z, hxd (b % 16) = z := ⟨_, rfl⟩
      rw [gh1] at hN hi1
      rw [gh2] at hN hi2
      obtain ⟨d1, gd1⟩ : ∃ z, b / 16 = z := ⟨_, rfl⟩
      obtain ⟨d2, gd2⟩ : ∃ z, b % 16 = z := ⟨_, rfl⟩
      rw [gd1] at hi1
      rw [gd2] at hi2
      have q1 : (b : Int).tdiv 16 = (d1 : Int) := by rw [Int.tdiv_eq_ediv_of_nonneg (by omega)]; omega
      have q1b : (b : Int) / 16 = (d1 : Int) := by omega
      have q2 : (b : Int).tmod 16 = (d2 : Int) := by rw [Int.tmod_eq_emod_of_nonneg (by omega)]; omega
      have q2b : (b : Int) % 16 = (d2 : Int) := by omega
      have q3 : IntKind.u8.wrap (d1 : Int) = (d1 : Int) := by rw [IntKind.wrap_u8]; omega
      have q4 : IntKind.u8.wrap (d2 : Int) = (d2 : Int) := by rw [IntKind.wrap_u8]; omega
      have HN := Lib.hid hN
      obtain ⟨m1, gm1⟩ : ∃ z, m + 2 = z := ⟨_, rfl⟩
      have Hm1 : RowKit.Hid (m1 = 2 * (k + 1)) := Lib.hid (by omega)
      have hm2 : m ≤ 200000 := by omega
      obtain ⟨bb, off, hA, hbB, hpl⟩ := byte_at H.out (by omega)
      have hbB' : bb < w.heap.size := hbB
      subst hA
      have l0 := (HO.out.below.cell (p := ⟨bb, off + k, none⟩) hbB).trans (hpl k b hx)
      have HNb : RowKit.Hid (¬ some bb = (Value.slice A1 m c1).ownBlock) := Lib.hid (fun e => by have := (HO.out.own.lt bb e.symm).1; omega)
      have HOd : RowKit.Hid (Ow w w.heap.size 5 1 (.slice A1 m c1) m (rowsV f8 (dgs (B.take k))) wo.drew) := Lib.hid ⟨HO.out.own, HO.out.below.drew, HO.out.lo, HO.out.hi⟩
      clear hx hb8 hN hd1 hd2 gh1 gh2 gd1 gd2 hpl hbB hbB' HO hm
      go_upto_region 5 with fail
      have ld0 : ∀ w', Kept (fun i => some i = (Value.slice A1 m c1).ownBlock) wo.drew w' → w'.cell? ⟨bb, off + k, none⟩ = some (.int .u8 (b : Int)) := fun w' h => h.cell (p := ⟨bb, off + k, none⟩) l0 HNb.out
      clear l0
      refine wp_region_reg (fun i => some i = (Value.slice A1 m c1).ownBlock) (by kernel_rfl) ?_
      refine opR_ 0 12 (v := ?_) ?_ ?_; rotate_left
      · intro w' hw'; go_simp; (try with_reducible rfl)
      simp only [st0_, st1_]
      refine opR_ 1 13 (v := ?_) ?_ ?_; rotate_left
      · intro w' hw'; go_simp; (try with_reducible rfl)
      simp only [st0_, st1_]
      refine opR_ 2 14 (v := ?_) ?_ ?_; rotate_left
      · intro w' hw'; go_simp; (try with_reducible rfl)
      simp only [st0_, st1_]
      refine opR_ 3 15 (v := ?_) ?_ ?_; rotate_left
      · intro w' hw'; go_simp; (try with_reducible rfl)
      simp only [st0_, st1_]
      refine opR_ 4 16 (v := ?_) ?_ ?_; rotate_left
      · intro w' hw'; go_simp; (try with_reducible rfl)
      simp only [st0_, st1_]
      refine opR_ 5 17 (v := ?_) ?_ ?_; rotate_left
      · intro w' hw'; go_simp; (try with_reducible rfl)
      simp only [st0_, st1_]
      refine opR_ 6 18 (v := ?_) ?_ ?_; rotate_left
      · intro w' hw'; go_simp; (try with_reducible rfl)
      simp only [st0_, st1_]
      refine opR_ 7 19 (v := ?_) ?_ ?_; rotate_left
      · intro w' hw'; go_simp; (try with_reducible rfl)
      simp only [st0_, st1_]
      refine opR_ 8 20 (v := ?_) ?_ ?_; rotate_left
      · intro w' hw'; go_simp; (try with_reducible rfl)
      simp only [st0_, st1_]
      refine opR_ 9 21 (v := ?_) ?_ ?_; rotate_left
      · intro w' hw'; go_simp; (try with_reducible rfl)
      simp only [st0_, st1_]
      refine opR_ 10 22 (v := ?_) ?_ ?_; rotate_left
      · intro w' hw'; go_simp; (try with_reducible rfl)
      simp only [st0_, st1_]
      refine opR_ 11 23 (v := ?_) ?_ ?_; rotate_left
      · intro w' hw'; go_simp; (try with_reducible rfl)
      simp only [st0_, st1_]
      refine opR_ 12 24 (v := ?_) ?_ ?_; rotate_left
      · intro w' hw'; go_simp; (try with_reducible rfl)
      simp only [st0_, st1_]
      apply wpR_run 13 (some 25)
      · rfl
      · rfl
      · kernel_rfl
      · rfl
      intro w' hw'
      refine ⟨.slice (some ⟨w'.heap.size, 0, none⟩) 2 2, w'.alloc (.cells #[.int .u8 (h1 : Int), .int .u8 (h2 : Int)] 5), exec_buildSlice 23 5 2 #[(0, .tmp 18), (1, .tmp 24)] (by rfl) Try.underlying23 _ (by kernel_rfl), Kept.of_below (below1 _ _), ?_⟩
      have HXd : RowKit.Hid (Ext wo.drew (w'.alloc (.cells #[.int .u8 (h1 : Int), .int .u8 (h2 : Int)] 5))) := Lib.hid (Ext.trans hw' (below1 _ _))
      have HL : RowKit.Hid (RdS (w'.alloc (.cells #[.int .u8 (h1 : Int), .int .u8 (h2 : Int)] 5)) (w'.alloc (.cells #[.int .u8 (h1 : Int), .int .u8 (h2 : Int)] 5)).heap.size 1 (some ⟨w'.heap.size, 0, none⟩) 2 2 (rowsV f8 [h1, h2])) := Lib.hid (RdS.of_whole8 (Whole.new_ _ _ [_, _]) rfl)
      obtain ⟨W3, gW3⟩ : ∃ z, w'.alloc (.cells #[.int .u8 (h1 : Int), .int .u8 (h2 : Int)] 5) = z := ⟨_, rfl⟩
      obtain ⟨g3, gg3⟩ : ∃ z, w'.heap.size = z := ⟨_, rfl⟩
      rw [gW3] at HXd HL ⊢
      rw [gg3] at HL ⊢
      clear hw' gW3 gg3
      simp only [Act.put, stA_, st0_, st1_]
      apply wpR_run 14 (some 26)
      · rfl
      · rfl
      · kernel_rfl
      · rfl
      intro w' hw'
      have hO8 := HOd.out.up (Ext.trans HXd.out hw')
      obtain ⟨A8, c8, w8, hrun8, ho8, hgr8⟩ := app8 23 hO8 (HL.out.bl hw') (by omega)
      refine ⟨_, w8, exec_append (by rfl) (by rfl) (by rfl) hrun8, kept_grow hgr8 (fun i hi => hi), ?_⟩
      have HO9 := Lib.hid ho8
      clear hw' hO8 hrun8 ho8 hgr8 HXd HL HOd
      simp only [Act.put, stA_, st0_, st1_]
      refine opR_ 15 3 (v := ?_) ?_ ?_; rotate_left
      · intro w' hw'; go_simp; (try with_reducible rfl)
      simp only [st0_, st1_]
      refine wpR_done (by kernel_rfl) ?_ _
      intro W9 hw9
      have HO10 := Lib.hid (HO9.out.up hw9)
      rw [← HN.out, gm1] at HO10
      rw [gm1]
      clear hw9 HO9 ld0 q1 q1b q2 q2b q3 q4 hi1 hi2 HN HNb gm1
      go_wp2
      go_roundw
      case rel => exact ⟨k + 1, m1, A8, c8, by omega, Hm1.out, rfl, by go_num, HO10⟩
      case measure => simp [intOf]; omega
    · obtain rfl : n = k := by omega
      obtain ⟨_, _, he, hrd⟩ := HO.out.rds
      injection he with q1 q2 q3
      subst q1 q3
      rw [List.take_of_length_le (by rw [Hl.out]; exact Nat.le_refl _)] at hrd
      have hcv := conv_txt hrd
      have HB := Lib.hid HO.out.below
      clear hrd HO hm
      go_wp2
      go_ret
      exact ⟨rfl, HB.out⟩
end Go.Proofs.Ytinfbaflkjghhaa
/- Print, and the document's own; the document's example. -/
namespace Go.Proofs.Ytinfbaflkjghhaa
open Go.RowKit
/-- A step's line, and a script. -/
def lnB (x : SD) : List Nat := dgs (sdB x) ++ [10]
def prB (X : List SD) : List Nat := X.flatMap lnB
def prE : List SD → Int
  | [] => 0
  | x :: X => if sdE x = 0 then prE X else sdE x
def prS (X : List SD) : List Nat := if prE X = 0 then prB X else []
theorem prE_app : ∀ (X Y : List SD), prE X = 0 → prE (X ++ Y) = prE Y
  | [], Y, _ => rfl
  | x :: X, Y, h => by
    have h2 : (if sdE x = 0 then prE X else sdE x) = 0 := h
    show (if sdE x = 0 then prE (X ++ Y) else sdE x) = _
    by_cases hx : sdE x = 0
    · rw [if_pos hx] at h2 ⊢
      exact prE_app X Y h2
    · rw [if_neg hx] at h2
      exact absurd h2 hx
theorem prE_next {X : List SD} {k : Nat} {x : SD} (hx : X[k]? = some x) (h : prE (X.take k) = 0) (h0 : sdE x = 0) : prE (X.take (k + 1)) = 0 := by
  rw [List.take_add_one, hx, prE_app _ _ h]
  show (if sdE x = 0 then prE [] else sdE x) = 0
  rw [if_pos h0]
  rfl
theorem prE_bad {X : List SD} {k : Nat} {x : SD} (hx : X[k]? = some x) (h : prE (X.take k) = 0) (h0 : ¬ sdE x = 0) : prE X = sdE x := by
  have e : X = X.take k ++ (x :: X.drop (k + 1)) := by
    conv => lhs; rw [← List.take_append_drop k X]
    congr 1
    rw [List.drop_eq_getElem_cons (List.getElem?_eq_some_iff.1 hx).1, (List.getElem?_eq_some_iff.1 hx).2]
  rw [e, prE_app _ _ h]
  show (if sdE x = 0 then _ else sdE x) = _
  rw [if_neg h0]
theorem prB_next {X : List SD} {k : Nat} {x : SD} (hx : X[k]? = some x) : prB (X.take (k + 1)) = prB (X.take k) ++ lnB x := by
  rw [List.take_add_one, hx]
  simp [prB, List.flatMap_append]
theorem lnB_lt (x : SD) : ∀ c ∈ lnB x, c < 256 := fun c hc => by
  rcases List.mem_append.1 hc with h | h
  · exact dgs_lt (sdB_lt x) c h
  · obtain rfl := List.mem_singleton.1 h; decide
theorem prB_lt (X : List SD) : ∀ c ∈ prB X, c < 256 := fun c hc => by
  obtain ⟨x, -, hc⟩ := List.mem_flatMap.1 hc
  exact lnB_lt x c hc
theorem lnB_len {x : SD} (h : sdE x = 0) : (lnB x).length ≤ 343 := by
  unfold lnB
  rw [List.length_append, dgs_len]
  have := (sdB_len h).2
  simp only [List.length_singleton]
  omega
theorem prB_len : ∀ (X : List SD), prE X = 0 → (prB X).length ≤ 343 * X.length
  | [], _ => Nat.le_refl _
  | x :: X, h => by
    have h2 : (if sdE x = 0 then prE X else sdE x) = 0 := h
    by_cases hx : sdE x = 0
    · rw [if_pos hx] at h2
      have := prB_len X h2
      have h3 := lnB_len hx
      show (lnB x ++ prB X).length ≤ 343 * (X.length + 1)
      rw [List.length_append]
      omega
    · rw [if_neg hx] at h2
      exact absurd h2 hx
theorem sdP_ok {x : SD} (h : sdE x = 0) : sdP x = sdB x := by unfold sdP; rw [if_pos h]
def GivesPr (w : World) (X : List SD) (e : Ending) (w' : World) : Prop := e = .returned (.tuple #[.string (txt (prS X)), .int .i64 (prE X)]) ∧ Below w.heap.size w w'
theorem and_15 : ∀ b : Nat, b < 256 → bits .and .u8 (b : Int) 15 = ((b % 16 : Nat) : Int) := by
  have h : ∀ b : Fin 256, bits .and .u8 (b.val : Int) 15 = ((b.val % 16 : Nat) : Int) := by decide +kernel
  exact fun b hb => h ⟨b, hb⟩
/-- What stands beside the builder is kept. -/
def NoBl (g : Nat) (v : Value) (A : Option Addr) (n : Nat) : Prop := ∀ a, A = some a → 0 < n → a.block ≠ g ∧ some a.block ≠ v.ownBlock
theorem NoBl.on {g n c : Nat} {v v' : Value} {A : Option Addr} {w w' : World} {xs : List Value} (h : NoBl g v A n) (hr : RdS w w.heap.size 1 A n c xs) (ho : v'.ownBlock = v.ownBlock ∨ ∀ i, v'.ownBlock = some i → w.heap.size ≤ i) : NoBl g v' A n := fun a ha h0 => ⟨(h a ha h0).1, by
  rcases ho with ho | ho
  · rw [ho]; exact (h a ha h0).2
  · intro e
    have h1 := ho _ e.symm
    have h2 := hr.low a ha h0
    omega⟩
theorem NoBl.keep {g n c : Nat} {v : Value} {A : Option Addr} {w w' : World} {xs : List Value} (h : NoBl g v A n) (hr : RdS w w.heap.size 1 A n c xs) (hk : Kept (fun i => i = g ∨ some i = v.ownBlock) w w') : RdS w' w'.heap.size 1 A n c xs :=
  hr.kept_ne hk (fun a ha h0 q => q.elim (h a ha h0).1 (h a ha h0).2)
theorem Bld.below {lo g : Nat} {w w' : World} {p v : Value} {X : List Nat} {w0 : World} (h : Bld lo w g p v X) (hb : Below w0.heap.size w0 w) (hk : Kept (fun i => i = g ∨ some i = v.ownBlock) w w') (hl : w0.heap.size ≤ lo) : Below w0.heap.size w0 w' :=
  Below.trans hb (hk.below hb.size (fun i hi q => by
    rcases q with rfl | q
    · have := h.lo; omega
    · have := (h.row.lt i q.symm).1; omega))
theorem bstr_any (lo g : Nat) (p v : Value) (X : List Nat) (w : World) (h : Bld lo w g p v X) (hx : ∀ b ∈ X, b < 256) :
    Calls Try.prog 30 #[.pointer (some ⟨g, 0, none⟩)] w fun e w' => e = .returned (.string (txt X)) ∧ Below lo w w' := by
  have hrow : w.ownsRow lo 5 1 v (Lib.byteCells (X.map UInt8.ofNat)).length (Lib.byteCells (X.map UInt8.ofNat)) := by
    rw [bytes_rows hx, rows8_len]
    exact h.row
  have hne : v.ownBlock ≠ some g := fun e => own_ne_ h.row h.cells (by decide) e.symm
  have hI : Lib.IsBuilderF 64 5 lo g (Lib.byteCells (X.map UInt8.ofNat)) w := Lib.IsBuilderF.of (h.ptr.imp (fun (e : p = .pointer none) => ⟨h.lo, v, by rw [← e]; exact h.cells, hrow, hne⟩) (fun (e : p = .pointer (some ⟨g, 0, none⟩)) => ⟨h.lo, v, by rw [← e]; exact h.cells, hrow, hne⟩))
  refine (Try.Builder_String_any_k lo g (X.map UInt8.ofNat) w hI (by have := h.lo; have := h.cells.lt; omega)).mono ?_
  rintro e w' ⟨rfl, -, hb, -⟩
  exact ⟨by rw [txt_mk], hb⟩
set_option maxRecDepth 100000 in
set_option maxHeartbeats 4000000 in
theorem print_any (A : Option Addr) (n c : Nat) (Ls : List StT) (w : World) (h : StRd w A n c Ls) (hn : n ≤ 2048) :
    Calls Try.prog 15 #[.slice A n c] w (GivesPr w (Ls.map sdT)) := by
  have H := Lib.hid h
  have Hl := Lib.hid (h.row.rlen stC_len (by decide))
  obtain ⟨X, gX⟩ : ∃ z, Ls.map sdT = z := ⟨_, rfl⟩
  have HXl : RowKit.Hid (X.length = n) := Lib.hid (by rw [← gX, List.length_map]; exact Hl.out)
  have HXat : RowKit.Hid (∀ (k : Nat) (x : StT), Ls[k]? = some x → X[k]? = some (sdT x)) := Lib.hid (fun k x hx => by rw [← gX, List.getElem?_map, hx]; rfl)
  rw [gX]
  have hn48 : decide ((2048 : Int) < (n : Int)) = false := decide_eq_false (by omega)
  have hn48b : decide (2048 < n) = false := decide_eq_false (by omega)
  clear h gX
  go_enter Try.func15, Try.ntmps15
  go_upto_region 5 with fail
  have hW : Whole (w.alloc (.cells #[.pointer none, .slice none 0 0] 64)) w.heap.size 64 [.pointer none, .slice none 0 0] := Whole.new_ _ _ [_, _]
  have hB : Below w.heap.size w (w.alloc (.cells #[.pointer none, .slice none 0 0] 64)) := below1 _ _
  obtain ⟨W0, gW0⟩ : ∃ z, w.alloc (.cells #[.pointer none, .slice none 0 0] 64) = z := ⟨_, rfl⟩
  obtain ⟨g, gg⟩ : ∃ z, w.heap.size = z := ⟨_, rfl⟩
  rw [gW0] at hW hB ⊢
  rw [gg] at hW ⊢
  have HG : RowKit.Hid (w.heap.size = g) := Lib.hid gg
  have HD0 : RowKit.Hid (Bld g W0 g (.pointer none) (.slice none 0 0) (prB (X.take 0))) := Lib.hid ⟨hW, .inl rfl, World.ownsRow_nil _ _ _ _, Nat.le_refl _⟩
  have HB0 : RowKit.Hid (Below w.heap.size w W0) := Lib.hid hB
  clear hW hB gW0 gg
  go_loopw [16] (fun i wr => ∃ (k : Nat) (p v : Value), k ≤ n ∧ i = .int .i64 (k : Int) ∧ RowKit.Hid (Bld g wr g p v (prB (X.take k))) ∧ RowKit.Hid (prE (X.take k) = 0) ∧ RowKit.Hid (Below w.heap.size w wr)) (fun i _ => n - (intOf i).toNat)
  case atStart => exact ⟨0, _, _, Nat.zero_le _, rfl, HD0, Lib.hid rfl, HB0⟩
  case round =>
    clear HD0 HB0
    obtain ⟨k, p, v, hk, rfl, HD, HE, HB⟩ := hrel
    obtain ⟨wo, gwo⟩ : ∃ z, wr = z := ⟨_, rfl⟩
    rw [gwo] at HD HB ⊢
    clear gwo
    by_cases hlt : k < n
    · have hltI : (k : Int) < (n : Int) := by omega
      obtain ⟨x, hx⟩ : ∃ x, Ls[k]? = some x := ⟨_, List.getElem?_eq_getElem (by have := Hl.out; omega)⟩
      have hox := (H.out.each x (List.mem_of_getElem? hx)).bl HB.out
      have hX := HXat.out k x hx
      obtain ⟨bb, off, rfl, hbB, hpl⟩ := (H.out.row.bl HB.out).place stC_len (by decide) (by omega)
      have HHo : RowKit.Hid (RdS (wo.alloc (.cells (stC x).toArray 30)) (wo.alloc (.cells (stC x).toArray 30)).heap.size 20 x.2.1 x.2.2.1 x.2.2.2.1 (rowsV opCells x.2.2.2.2)) := Lib.hid (hox.ops.al _)
      have HPu := Lib.hid (put23_any x (wo.alloc (.cells (stC x).toArray 30)) HHo.out hox.few)
      obtain ⟨⟨k1, k2, k3, k4⟩, Ax, nx, cx, Lx⟩ := x
      have l0 := hpl k _ hx 0 _ rfl
      have l1 := hpl k _ hx 1 _ rfl
      have l2 := hpl k _ hx 2 _ rfl
      have l3 := hpl k _ hx 3 _ rfl
      have l4 := hpl k _ hx 4 _ rfl
      simp only [Addr.add_lit, Nat.add_zero] at l0 l1 l2 l3 l4
      have HX := Lib.hid hX
      have HDa := Lib.hid (HD.out.bl (below1 wo (.cells #[.int .i64 k1, .int .i64 k2, .int .i64 k3, .int .i64 k4, .slice Ax nx cx] 30)))
      have HBa := Lib.hid (bel_al HB.out (.cells #[.int .i64 k1, .int .i64 k2, .int .i64 k3, .int .i64 k4, .slice Ax nx cx] 30))
      obtain ⟨sx, gsx⟩ : ∃ z, sdT ((k1, k2, k3, k4), Ax, nx, cx, Lx) = z := ⟨_, rfl⟩
      rw [gsx] at HX HPu
      clear hx hox hX hpl hbB HD HB HHo gsx
      go_wp2_with fail
      refine (HPu.out).mono ?_
      rintro e w3 ⟨Ap, cp, rfl, hop, hb3⟩
      have HDb := Lib.hid (HDa.out.bl hb3)
      have HBb := Lib.hid (bel_bl HBa.out hb3)
      have hlow := HDa.out.row.lt
      have hgl := HDa.out.cells.lt
      have HNo0 : RowKit.Hid (NoBl g v Ap (sdP sx).length) := Lib.hid (fun a ha h0 => by
        have h1 := (own_lt hop ha).1
        refine ⟨fun e => ?_, fun e => ?_⟩
        · rw [e] at h1; exact absurd hgl (Nat.not_lt.2 h1)
        · exact absurd (hlow a.block e.symm).2 (Nat.not_lt.2 h1))
      have HRb := Lib.hid (own_rds hop)
      clear hop hb3 HDa HBa HPu l0 l1 l2 l3 l4 hlow hgl
      by_cases he : sdE sx = 0
      · have hpx := sdP_ok he
        rw [hpx, he]
        rw [hpx] at HNo0 HRb
        have Hps := Lib.hid (sdB_lt sx)
        have HNx := Lib.hid (prB_next HX.out)
        have HEx := Lib.hid (prE_next HX.out HE.out he)
        have Hln := Lib.hid (lnB_len he)
        have Hpr := Lib.hid (prB_len _ HE.out)
        obtain ⟨P, gP⟩ : ∃ z, sdB sx = z := ⟨_, rfl⟩
        have HLn : RowKit.Hid (lnB sx = dgs P ++ [10]) := Lib.hid (by unfold lnB; rw [gP])
        have hP171 : P.length ≤ 171 := by rw [← gP]; exact (sdB_len he).2
        rw [gP] at HNo0 HRb Hps ⊢
        obtain ⟨m, gm⟩ : ∃ z, P.length = z := ⟨_, rfl⟩
        have Hpl : RowKit.Hid (P.length = m) := Lib.hid gm
        rw [gm] at HNo0 HRb hP171 ⊢
        obtain ⟨Y, gY⟩ : ∃ z, prB (X.take k) = z := ⟨_, rfl⟩
        rw [gY] at HDb HNx Hpr
        have HY7 : RowKit.Hid (Y.length ≤ 343 * 2048) := Lib.hid (by
          have h1 := Hpr.out
          have h2 : (X.take k).length ≤ 2048 := by rw [List.length_take]; omega
          omega)
        clear hpx gP gm gY he Hln Hpr HE
        go_upto_region 11 with fail
        obtain ⟨wi, gwi⟩ : ∃ z, w3 = z := ⟨_, rfl⟩
        rw [gwi] at HDb HBb HRb ⊢
        clear gwi
        have HDc : RowKit.Hid (Bld g wi g p v (Y ++ dgs (P.take 0))) := Lib.hid (by rw [show dgs (P.take 0) = [] from rfl, List.append_nil]; exact HDb.out)
        clear HDb
        go_loopw [30] (fun i wr => ∃ (q : Nat) (p v : Value), q ≤ m ∧ i = .int .i64 (q : Int) ∧ RowKit.Hid (Bld g wr g p v (Y ++ dgs (P.take q))) ∧ RowKit.Hid (RdS wr wr.heap.size 1 Ap m cp (rowsV f8 P)) ∧ RowKit.Hid (NoBl g v Ap m) ∧ RowKit.Hid (Below w.heap.size w wr)) (fun i _ => m - (intOf i).toNat)
        case atStart => exact ⟨0, p, v, Nat.zero_le _, rfl, HDc, HRb, HNo0, HBb⟩
        case round =>
          clear HDc HRb HNo0 HBb
          obtain ⟨q, p, v, hq, rfl, HD, HR, HNo, HB⟩ := hrel
          obtain ⟨wp, gwp⟩ : ∃ z, wr = z := ⟨_, rfl⟩
          rw [gwp] at HD HR HB ⊢
          clear gwp
          by_cases hql : q < m
          · have hqI : (q : Int) < (m : Int) := by omega
            obtain ⟨b, hx⟩ : ∃ b, P[q]? = some b := ⟨_, List.getElem?_eq_getElem (by have := Hpl.out; omega)⟩
            have hb8 : b < 256 := Hps.out b (List.mem_of_getElem? hx)
            have hN := dgs_next hx
            have hd1 : b / 16 < 16 := by omega
            have hd2 : b % 16 < 16 := by omega
            have hi1 := fun W => idx_hex .u8 (b / 16) hd1 W
            have hi2 := fun W => idx_hex .u8 (b % 16) hd2 W
            obtain ⟨h1, gh1⟩ : ∃ z, hxd (b / 16) = z := ⟨_, rfl⟩
            obtain ⟨h2, gh2⟩ : ∃ z, hxd (b % 16) = z := ⟨_, rfl⟩
            rw [gh1] at hN hi1
            rw [gh2] at hN hi2
            obtain ⟨d1, gd1⟩ : ∃ z, b / 16 = z := ⟨_, rfl⟩
            obtain ⟨d2, gd2⟩ : ∃ z, b % 16 = z := ⟨_, rfl⟩
            rw [gd1] at hi1
            rw [gd2] at hi2
            have q1b : (b : Int) / 16 = (d1 : Int) := by omega
            have q2 := and_15 b hb8
            rw [gd2] at q2
            obtain ⟨bb2, off2, hA, hbB, hpl⟩ := byte_at HR.out (by omega)
            subst hA
            have l0 := hpl q b hx
            have HN := Lib.hid hN
            have Hi2 := Lib.hid hi2
            have hYl : (Y ++ dgs (P.take q)).length ≤ 100000000 := by
              rw [List.length_append, dgs_len, List.length_take]
              have := HY7.out
              omega
            have hYl2 : ((Y ++ dgs (P.take q)) ++ [h1]).length ≤ 100000000 := by
              rw [List.length_append, List.length_append, dgs_len, List.length_take]
              have := HY7.out
              simp only [List.length_singleton]
              omega
            clear hpl hbB hN gh1 gh2 gd1 gd2 hd1 hd2 hx hb8 hi2
            go_wp2_with fail
            refine (wb_any g g p v _ h1 wp HD.out hYl).mono ?_
            rintro e w4 ⟨v4, rfl, hd4, hk4, ho4⟩
            have HD4 := Lib.hid hd4
            have HR4 := Lib.hid (HNo.out.keep HR.out hk4)
            have HNo4 := Lib.hid (HNo.out.on (w' := w4) HR.out ho4)
            have HB4 := Lib.hid (HD.out.below HB.out hk4 (Nat.le_of_eq HG.out))
            clear hd4 hk4 ho4 HD HR HNo HB l0 hi1 q1b
            have hi2 := Hi2.out
            go_wp2_with fail
            refine (wb_any g g _ v4 _ h2 w4 HD4.out hYl2).mono ?_
            rintro e w5 ⟨v5, rfl, hd5, hk5, ho5⟩
            have HD5 := Lib.hid hd5
            have HR5 := Lib.hid (HNo4.out.keep HR4.out hk5)
            have HNo5 := Lib.hid (HNo4.out.on (w' := w5) HR4.out ho5)
            have HB5 := Lib.hid (HD4.out.below HB4.out hk5 (Nat.le_of_eq HG.out))
            clear hd5 hk5 ho5 HD4 HR4 HNo4 HB4 hi2 q2
            go_wp2
            go_roundw
            case rel => exact ⟨q + 1, _, v5, by omega, by go_num, Lib.hid (by rw [HN.out]; have := HD5.out; simpa [List.append_assoc] using this), HR5, HNo5, HB5⟩
            case measure => simp [intOf]; omega
          · obtain rfl : m = q := by omega
            have hfull : P.take m = P := List.take_of_length_le (by rw [Hpl.out]; exact Nat.le_refl _)
            have hYl : (Y ++ dgs (P.take m)).length ≤ 100000000 := by
              rw [List.length_append, dgs_len, List.length_take]
              have := HY7.out
              omega
            have HF := Lib.hid hfull
            clear hfull
            go_wp2_with fail
            refine (wb_any g g p v _ 10 wp HD.out hYl).mono ?_
            rintro e w4 ⟨v4, rfl, hd4, hk4, -⟩
            have HB4 := Lib.hid (HD.out.below HB.out hk4 (Nat.le_of_eq HG.out))
            have HD4 : RowKit.Hid (Bld g w4 g (.pointer (some ⟨g, 0, none⟩)) v4 (prB (X.take (k + 1)))) := Lib.hid (by
              rw [HNx.out, HLn.out, ← List.append_assoc]
              rw [HF.out] at hd4
              exact hd4)
            clear hd4 hk4 HD HR HNo HB HNx HF
            go_wp2
            go_roundw
            case rel => exact ⟨k + 1, _, v4, by omega, by go_num, HD4, HEx, HB4⟩
            case measure => simp [intOf]; omega
      · have hbad := prE_bad HX.out HE.out he
        have HP : RowKit.Hid (GivesPr w X (.returned (.tuple #[.string { data := #[] }, .int .i64 (sdE sx)])) w3) := Lib.hid (by
          unfold GivesPr prS
          rw [hbad, if_neg he]
          exact ⟨rfl, HBb.out⟩)
        obtain ⟨e9, ge9⟩ : ∃ z, sdE sx = z := ⟨_, rfl⟩
        rw [ge9] at he HP ⊢
        have hq9 : (e9 != 0) = true := bne_iff_ne.2 he
        clear hbad ge9 he HDb HRb HNo0 HE
        go_wp2
        refine bodyPost_ret (v := .tuple #[.string { data := #[] }, .int .i64 e9]) (by simp [results, Try.results15, go_sem]) rfl ?_
        exact HP.out
    · obtain rfl : n = k := by omega
      have hfull : X.take n = X := List.take_of_length_le (by rw [HXl.out]; exact Nat.le_refl _)
      have hd := HD.out
      have he := HE.out
      rw [hfull] at hd he
      have HP : RowKit.Hid (∀ w4, Below g wo w4 → GivesPr w X (.returned (.tuple #[.string (txt (prB X)), .int .i64 0])) w4) := Lib.hid (fun w4 hb => by
        unfold GivesPr prS
        rw [he, if_pos rfl]
        exact ⟨rfl, HB.out.trans (by rw [HG.out]; exact hb)⟩)
      have HDz := Lib.hid hd
      clear hfull hd he HD HE
      go_wp2_with fail
      refine (bstr_any g g p v (prB X) wo HDz.out (prB_lt X)).mono ?_
      rintro e w4 ⟨rfl, hb4⟩
      have HQ := Lib.hid (HP.out w4 hb4)
      clear hb4 HP HDz
      go_wp2
      refine bodyPost_ret (v := .tuple #[.string (txt (prB X)), .int .i64 0]) (by simp [results, Try.results15, go_sem]) rfl ?_
      exact HQ.out
end Go.Proofs.Ytinfbaflkjghhaa
/- The document's Print; the document's example. -/
namespace Go.Proofs.Ytinfbaflkjghhaa
open Go.RowKit
def rnd0 : List Nat := [48, 48, 48, 48, 48, 48, 48, 48, 48, 48, 48, 48, 48, 48, 48, 98]
theorem round_any (w : World) : Calls Try.prog 19 #[] w fun e w' => e = .returned (.string (txt (rnd0 ++ List.replicate 48 48))) ∧ Below w.heap.size w w' := by
  have HB0 : RowKit.Hid (Below w.heap.size w w) := Lib.hid (Below.refl _ _)
  go_enter Try.func19, Try.ntmps19
  go_upto_region 3 with fail
  have HT0 : RowKit.Hid (({ data := #[48, 48, 48, 48, 48, 48, 48, 48, 48, 48, 48, 48, 48, 48, 48, 98] } : ByteArray) = txt (rnd0 ++ List.replicate 0 48)) := Lib.hid rfl
  go_loopw [1, 2] (fun s i wr => ∃ (k : Nat) (t : ByteArray), k ≤ 48 ∧ s = .string t ∧ i = .int .i64 (k : Int) ∧ RowKit.Hid (t = txt (rnd0 ++ List.replicate k 48)) ∧ RowKit.Hid (Below w.heap.size w wr)) (fun _ i _ => 48 - (intOf i).toNat)
  case atStart => exact ⟨0, _, Nat.zero_le _, rfl, rfl, HT0, HB0⟩
  case round =>
    clear HT0 HB0
    obtain ⟨k, t, hk, rfl, rfl, HT, HB⟩ := hrel
    by_cases hlt : k < 48
    · have hltI : (k : Int) < 48 := by omega
      have HT4 : RowKit.Hid (t ++ { data := #[48] } = txt (rnd0 ++ List.replicate (k + 1) 48)) := Lib.hid (by
        rw [HT.out, show (({ data := #[48] } : ByteArray)) = txt [48] from rfl, txt_app, List.append_assoc, List.replicate_succ'])
      have hts : t.size ≤ 100 := by rw [HT.out, txt_size]; simp [rnd0]; omega
      have hc1 : ¬ (9223372036854775807 : Int) < ((t.size + 1 : Nat) : Int) := by omega
      have hd1 : ¬ 9223372036854775807 < t.size + 1 := by omega
      have he1 : ¬ (9223372036854775807 : Int) < (((t.size : Nat) : Int) + ((1 : Nat) : Int)) := by omega
      clear HT
      go_wp2
      go_roundw
      case rel => exact ⟨k + 1, _, by omega, rfl, by go_num, HT4, HB⟩
      case measure => simp [intOf]; omega
    · obtain rfl : 48 = k := by omega
      go_wp2
      go_ret
      exact ⟨by rw [← HT.out]; rfl, HB.out⟩
theorem shown23_any (w : World) : Calls Try.prog 8 #[] w fun e w' => e = .returned (.bool true) ∧ Below w.heap.size w w' := by
  have hv : prS [((11, 0, 0, 0), [])] = rnd0 ++ List.replicate 48 48 ++ [10] := by decide +kernel
  have he : prE [((11, 0, 0, 0), [])] = 0 := rfl
  have HV := Lib.hid hv
  have hW : Whole (w.alloc (.cells #[.int .i64 11, .int .i64 0, .int .i64 0, .int .i64 0, .slice none 0 0] 30)) w.heap.size 30 [.int .i64 11, .int .i64 0, .int .i64 0, .int .i64 0, .slice none 0 0] := Whole.new_ _ _ [_, _, _, _, _]
  have hS : StRd (w.alloc (.cells #[.int .i64 11, .int .i64 0, .int .i64 0, .int .i64 0, .slice none 0 0] 30)) (some ⟨w.heap.size, 0, none⟩) 1 1 [((11, 0, 0, 0), (none, 0, 0, []))] :=
    ⟨by rw [rowsS1]; exact RdS.of_whole8 hW rfl, fun s hs => by
      obtain rfl := List.mem_singleton.1 hs
      exact ⟨rds_nil _ _ _, by decide, fun o ho => (by cases ho), by unfold In4 In64; simp⟩⟩
  have HP := Lib.hid (print_any (some ⟨w.heap.size, 0, none⟩) 1 1 [((11, 0, 0, 0), (none, 0, 0, []))] _ hS (by decide))
  have HB0 : RowKit.Hid (Below w.heap.size w (w.alloc (.cells #[.int .i64 11, .int .i64 0, .int .i64 0, .int .i64 0, .slice none 0 0] 30))) := Lib.hid (below1 _ _)
  clear hv hW hS he
  go_enter Try.func8, Try.ntmps8
  go_wp2_with fail
  refine HP.out.mono ?_
  rintro e w1 ⟨rfl, hb1⟩
  rw [show ([((11, 0, 0, 0), (none, 0, 0, []))] : List StT).map sdT = [((11, 0, 0, 0), [])] from rfl, HV.out, show prE [((11, 0, 0, 0), [])] = 0 from rfl]
  have HB1 := Lib.hid (bel_bl HB0.out hb1)
  clear hb1 HP HB0
  obtain ⟨t1, gt1⟩ : ∃ z, txt (rnd0 ++ List.replicate 48 48 ++ [10]) = z := ⟨_, rfl⟩
  rw [gt1]
  have G1 := Lib.hid gt1
  clear gt1
  go_wp2_with fail
  refine (round_any w1).mono ?_
  rintro e w2 ⟨rfl, hb2⟩
  have HB2 := Lib.hid (bel_bl HB1.out hb2)
  have HT : RowKit.Hid (txt (rnd0 ++ List.replicate 48 48) ++ { data := #[10] } = t1) := Lib.hid (by
    rw [show (({ data := #[10] } : ByteArray)) = txt [10] from rfl, txt_app]
    exact G1.out)
  obtain ⟨t2, gt2⟩ : ∃ z, txt (rnd0 ++ List.replicate 48 48) = z := ⟨_, rfl⟩
  rw [gt2] at HT ⊢
  have ht := HT.out
  have hts : t2.size ≤ 100 := by rw [← gt2, txt_size]; decide
  have hc1 : ¬ (9223372036854775807 : Int) < ((t2.size + 1 : Nat) : Int) := by omega
  have hd1 : ¬ 9223372036854775807 < t2.size + 1 := by omega
  have he1 : ¬ (9223372036854775807 : Int) < (((t2.size : Nat) : Int) + ((1 : Nat) : Int)) := by omega
  clear gt2 hb2 HB1 G1
  go_wp2
  go_ret
  exact ⟨rfl, HB2.out⟩
end Go.Proofs.Ytinfbaflkjghhaa
/- OpcodeTakes' walk. -/
namespace Go.Proofs.Ytinfbaflkjghhaa
open Go.RowKit
theorem whV_len {B : List Nat} (hb : ∀ b ∈ B, b < 256) : (whV B).length ≤ 255 := by
  have h1 := byte_lt hb
  unfold whV
  split
  · unfold rdV
    rw [edV_len]
    omega
  · exact Nat.zero_le _
end Go.Proofs.Ytinfbaflkjghhaa
/- ScriptSteps. -/
namespace Go.Proofs.Ytinfbaflkjghhaa
open Go.RowKit
theorem whV_txt {B : List Nat} (hb : ∀ b ∈ B, b < 256) : ∀ o ∈ whV B, o.t.size ≤ 255 := fun o ho => by
  unfold whV at ho
  split at ho
  · exact edV_t _ (drop_lt hb 1) o ho
  · cases ho
theorem tkS_ops {B : List Nat} (hb : ∀ b ∈ B, b < 256) : (tkS B).2.length ≤ 255 ∧ ∀ o ∈ (tkS B).2, o.t.size ≤ maxLen := by
  unfold tkS
  split
  · exact ⟨whV_len (drop_lt hb 32), fun o ho => by have := whV_txt (drop_lt hb 32) o ho; unfold maxLen; omega⟩
  · exact ⟨by simp [zS], fun o ho => (by cases ho)⟩
theorem gives_s {w w' : World} {k1 k2 k3 k4 y : Int} {V : List OpT} {e : Ending} (h : GivesS w ((k1, k2, k3, k4), V) y e w') : ∃ A n c, e = .returned (.tuple #[.agg #[.int .i64 k1, .int .i64 k2, .int .i64 k3, .int .i64 k4, .slice A n c], .int .i64 y]) ∧ n = V.length ∧ w'.ownsRow w.heap.size 53 20 (.slice A n c) n (rowsV opCells V) ∧ Below w.heap.size w w' := by
  obtain ⟨A, n, c, h1, h2⟩ := h
  exact ⟨A, n, c, h1, h2⟩
end Go.Proofs.Ytinfbaflkjghhaa
/- Digits read as bytes; the document's digit and line. -/
namespace Go.Proofs.Ytinfbaflkjghhaa
open Go.RowKit
def vD (c : Nat) : Bool := decide (48 ≤ c ∧ c ≤ 57) || decide (97 ≤ c ∧ c ≤ 102)
def dg (c : Nat) : Nat := if 48 ≤ c ∧ c ≤ 57 then c - 48 else if 97 ≤ c ∧ c ≤ 102 then c - 87 else 0
theorem dg_lt (c : Nat) : dg c < 16 := by unfold dg; split; omega; split <;> omega
theorem hxd_dg {c : Nat} (h : vD c = true) : hxd (dg c) = c := by
  unfold vD at h
  rcases Bool.or_eq_true_iff.1 h with h | h
  · have h2 := of_decide_eq_true h
    have e : dg c = c - 48 := by unfold dg; rw [if_pos h2]
    rw [e]
    unfold hxd
    rw [if_pos (by omega)]
    omega
  · have h2 := of_decide_eq_true h
    have e : dg c = c - 87 := by unfold dg; rw [if_neg (by omega), if_pos h2]
    rw [e]
    unfold hxd
    rw [if_neg (by omega)]
    omega
theorem vD_hxd {d : Nat} (h : d < 16) : vD (hxd d) = true := by
  unfold vD hxd
  by_cases h1 : d < 10
  · rw [if_pos h1, decide_eq_true (show 48 ≤ 48 + d ∧ 48 + d ≤ 57 by omega)]; rfl
  · rw [if_neg h1, decide_eq_true (show 97 ≤ 87 + d ∧ 87 + d ≤ 102 by omega)]; simp
theorem dg_hxd {d : Nat} (h : d < 16) : dg (hxd d) = d := by
  unfold dg hxd
  by_cases h1 : d < 10
  · rw [if_pos h1, if_pos (by omega)]; omega
  · rw [if_neg h1, if_neg (by omega), if_pos (by omega)]; omega
theorem dg_none {c : Nat} (h : vD c = false) : dg c = 0 := by
  unfold vD at h
  have h1 := Bool.or_eq_false_iff.1 h
  have h2 := of_decide_eq_false h1.1
  have h3 := of_decide_eq_false h1.2
  unfold dg
  rw [if_neg h2, if_neg h3]
/-- The bytes of digits, by twos. -/
def pD : List Nat → List Nat
  | a :: b :: L => (16 * dg a + dg b) :: pD L
  | _ => []
theorem pD_lt : ∀ (l : List Nat), ∀ b ∈ pD l, b < 256
  | [], b, h => by cases h
  | [_], b, h => by cases h
  | x :: y :: L, b, h => by
    rcases List.mem_cons.1 (show b ∈ (16 * dg x + dg y) :: pD L from h) with rfl | h
    · have := dg_lt x
      have := dg_lt y
      omega
    · exact pD_lt L b h
theorem pD_len : ∀ (l : List Nat), (pD l).length = l.length / 2
  | [] => by simp [pD]
  | [_] => by simp [pD]
  | x :: y :: L => by
    show (pD L).length + 1 = (L.length + 2) / 2
    rw [pD_len L]
    omega
def okD (l : List Nat) : Bool := decide (dgs (pD l) = l)
theorem okD_all : ∀ (l : List Nat), l.length % 2 = 0 → (∀ c ∈ l, vD c = true) → dgs (pD l) = l
  | [], _, _ => rfl
  | [_], h, _ => by simp at h
  | x :: y :: L, h, hv => by
    have h1 := hxd_dg (hv x List.mem_cons_self)
    have h2 := hxd_dg (hv y (List.mem_cons_of_mem _ List.mem_cons_self))
    have hx := dg_lt x
    have hy := dg_lt y
    show hxd ((16 * dg x + dg y) / 16) :: hxd ((16 * dg x + dg y) % 16) :: dgs (pD L) = x :: y :: L
    rw [show (16 * dg x + dg y) / 16 = dg x by omega, show (16 * dg x + dg y) % 16 = dg y by omega, h1, h2, okD_all L (by simp only [List.length_cons] at h; omega) (fun c hc => hv c (List.mem_cons_of_mem _ (List.mem_cons_of_mem _ hc)))]
theorem dgs_vD {B : List Nat} (h : ∀ b ∈ B, b < 256) : ∀ c ∈ dgs B, vD c = true := fun c hc => by
  obtain ⟨b, hb, hc⟩ := List.mem_flatMap.1 hc
  have := h b hb
  simp only [List.mem_cons, List.not_mem_nil, or_false] at hc
  rcases hc with rfl | rfl
  · exact vD_hxd (by omega)
  · exact vD_hxd (by omega)
theorem okD_yes {l : List Nat} (h : l.length % 2 = 0) (hv : ∀ c ∈ l, vD c = true) : okD l = true := decide_eq_true (okD_all l h hv)
theorem okD_odd {l : List Nat} (h : ¬ l.length % 2 = 0) : okD l = false := decide_eq_false (fun e => h (by rw [← e, dgs_len]; omega))
theorem okD_bad {l : List Nat} {c : Nat} (hc : c ∈ l) (h : vD c = false) : okD l = false := decide_eq_false (fun e => by
  have := dgs_vD (pD_lt l) c (by rw [e]; exact hc)
  rw [h] at this
  cases this)
theorem pD_next : ∀ (q : Nat) (l : List Nat) {a b : Nat}, l[2 * q]? = some a → l[2 * q + 1]? = some b → pD (l.take (2 * (q + 1))) = pD (l.take (2 * q)) ++ [16 * dg a + dg b]
  | 0, l, a, b, ha, hb => by
    match l, ha, hb with
    | x :: y :: L, ha, hb =>
      obtain rfl : x = a := by simpa using ha
      obtain rfl : y = b := by simpa using hb
      rfl
    | [_], _, hb => simp at hb
    | [], ha, _ => simp at ha
  | q + 1, l, a, b, ha, hb => by
    match l, ha, hb with
    | x :: y :: L, ha, hb =>
      have ih := pD_next q L (a := a) (b := b) (by rw [show 2 * (q + 1) = 2 * q + 1 + 1 by omega] at ha; simpa using ha) (by rw [show 2 * (q + 1) + 1 = 2 * q + 1 + 1 + 1 by omega] at hb; simpa using hb)
      rw [show 2 * (q + 1 + 1) = 2 * (q + 1) + 1 + 1 by omega, show 2 * (q + 1) = 2 * q + 1 + 1 by omega]
      simp only [List.take_succ_cons, pD]
      rw [show 2 * q + 1 + 1 = 2 * (q + 1) by omega, ih]
      rfl
    | [_], _, hb => simp at hb
    | [], ha, _ => simp at ha
def lnO (l : List Nat) : Bool := okD l && okS (pD l)
def lnV (l : List Nat) : SD := if okD l = true then tkS (pD l) else zS
def lnE (l : List Nat) : Int := if lnO l = true then 0 else 240
theorem ln_no {l : List Nat} (h : okD l = false) : lnV l = zS ∧ lnE l = 240 ∧ lnO l = false := by
  unfold lnV lnE lnO
  rw [h]
  exact ⟨rfl, rfl, rfl⟩
theorem ln_yes {l : List Nat} (h : okD l = true) : lnV l = tkS (pD l) ∧ lnE l = tkSE (pD l) ∧ lnO l = okS (pD l) := by
  unfold lnV lnE lnO tkSE
  rw [h]
  exact ⟨rfl, rfl, rfl⟩
theorem idx_txt {l : List Nat} {i c : Nat} (hb : ∀ b ∈ l, b < 256) (h : l[i]? = some c) (W : World) : (Instr.index 9 (.string (txt l)) (.int .i64 (i : Int))).run Try.prog W = .ok (.int .u8 (c : Int)) W := by
  have hc := hb c (List.mem_of_getElem? h)
  have e : (txt l)[i]? = some (UInt8.ofNat c) := by
    have h2 : (txt l).data.toList[i]? = some (UInt8.ofNat c) := by rw [txt_data, List.getElem?_map, h]; rfl
    obtain ⟨h3, h4⟩ := List.getElem?_eq_some_iff.1 h2
    have h5 : i < (txt l).size := by simpa using h3
    rw [getElem?_pos (txt l) i h5]
    congr 1
  simp only [Instr.index, asIntOf, Sem.run_bind, Sem.run_pure, Result.andThen_ok, run_underlying (Try.underlying9)]
  rw [if_pos (by omega), Int.toNat_natCast, e]
  simp only [Sem.run_pure]
  congr 3
  simp [Nat.mod_eq_of_lt hc]
set_option maxRecDepth 100000 in
set_option maxHeartbeats 4000000 in
theorem rdig_any (c : Nat) (hc : c < 256) (w : World) : Calls Try.prog 57 #[.int .u8 (c : Int)] w fun e w' => e = .returned (.int .u8 (dg c : Int)) ∧ Below w.heap.size w w' := by
  have HB0 : RowKit.Hid (Below w.heap.size w w) := Lib.hid (Below.refl _ _)
  obtain ⟨D, gD⟩ : ∃ z, dg c = z := ⟨_, rfl⟩
  rw [gD]
  have HD := Lib.hid gD
  clear gD
  go_enter Try.func57, Try.ntmps57
  go_upto_region 2 with fail
  go_loopw [3] (fun i wr => ∃ k : Nat, k ≤ 16 ∧ i = .int .i64 (k : Int) ∧ RowKit.Hid (∀ j, j < k → ¬ hxd j = c) ∧ RowKit.Hid (Below w.heap.size w wr)) (fun i _ => 16 - (intOf i).toNat)
  case atStart => exact ⟨0, Nat.zero_le _, rfl, Lib.hid (fun j hj => absurd hj (Nat.not_lt_zero j)), HB0⟩
  case round =>
    clear HB0
    obtain ⟨k, hk, rfl, HN, HB⟩ := hrel
    by_cases hlt : k < 16
    · have hltI : (k : Int) < 16 := by omega
      have hix := fun W => idx_hex .i64 k hlt W
      obtain ⟨h, gh⟩ : ∃ z, hxd k = z := ⟨_, rfl⟩
      rw [gh] at hix
      by_cases he : h = c
      · have hd : dg c = k := by rw [← he, ← gh]; exact dg_hxd hlt
        have hq : ((h : Int) == (c : Int)) = true := by rw [he]; exact beq_self_eq_true _
        have hw : IntKind.u8.wrap (k : Int) = (k : Int) := by rw [IntKind.wrap_u8]; omega
        have Hd := Lib.hid hd
        clear gh he hd HN
        go_wp2
        go_ret
        exact ⟨by first | (rw [← HD.out, Hd.out]; done) | (rw [← HD.out, Hd.out]; rfl), HB.out⟩
      · have hq : ((h : Int) == (c : Int)) = false := beq_eq_false_iff_ne.2 (by omega)
        have HN2 : RowKit.Hid (∀ j, j < k + 1 → ¬ hxd j = c) := Lib.hid (fun j hj e => by
          by_cases hjk : j = k
          · rw [hjk, gh] at e; exact he e
          · exact HN.out j (by omega) e)
        clear gh he HN
        go_wp2
        go_roundw
        case rel => exact ⟨k + 1, by omega, by go_num, HN2, HB⟩
        case measure => simp [intOf]; omega
    · obtain rfl : 16 = k := by omega
      have hd : dg c = 0 := by
        cases hv : vD c with
        | false => exact dg_none hv
        | true => exact absurd (hxd_dg hv) (HN.out (dg c) (dg_lt c))
      have Hd : RowKit.Hid (0 = D) := Lib.hid (hd.symm.trans HD.out)
      clear hd
      go_wp2
      go_ret
      exact ⟨by first | (rw [← Hd.out]; done) | (rw [← Hd.out]; rfl) | simp [← Hd.out], HB.out⟩
set_option maxRecDepth 100000 in
set_option maxHeartbeats 4000000 in
theorem rline_any (l : List Nat) (w : World) (hn : l.length ≤ 100000) (hb : ∀ b ∈ l, b < 256) :
    Calls Try.prog 35 #[.string (txt l)] w (GivesS w (lnV l) (lnE l)) := by
  obtain ⟨n, gn⟩ : ∃ z, l.length = z := ⟨_, rfl⟩
  have Hl := Lib.hid gn
  have Hb := Lib.hid hb
  have hts : (txt l).size = n := by rw [txt_size]; exact gn
  have hIx : ∀ (i c : Nat), l[i]? = some c → ∀ W, (Instr.index 9 (.string (txt l)) (.int .i64 (i : Int))).run Try.prog W = .ok (.int .u8 (c : Int)) W := fun i c h W => idx_txt hb h W
  obtain ⟨t, gt⟩ : ∃ z, txt l = z := ⟨_, rfl⟩
  rw [gt] at hts hIx ⊢
  have Ht := Lib.hid hts
  have HIx := Lib.hid hIx
  have Gt := Lib.hid gt
  rw [gn] at hn
  have hW : Whole (w.alloc (.cells #[.int .i64 0, .int .i64 0, .int .i64 0, .int .i64 0, .slice none 0 0] 30)) w.heap.size 30 [.int .i64 0, .int .i64 0, .int .i64 0, .int .i64 0, .slice none 0 0] := Whole.new_ _ _ [_, _, _, _, _]
  have hB := below1 w (.cells #[.int .i64 0, .int .i64 0, .int .i64 0, .int .i64 0, .slice none 0 0] 30)
  clear gn hb hts hIx gt
  go_enter Try.func35, Try.ntmps35
  go_upto_region 3 with fail
  have hO : Ow (w.alloc (.cells #[.int .i64 0, .int .i64 0, .int .i64 0, .int .i64 0, .slice none 0 0] 30)) (w.alloc (.cells #[.int .i64 0, .int .i64 0, .int .i64 0, .int .i64 0, .slice none 0 0] 30)).heap.size 5 1 (.slice (some ⟨(w.alloc (.cells #[.int .i64 0, .int .i64 0, .int .i64 0, .int .i64 0, .slice none 0 0] 30)).heap.size, 0, none⟩) 0 0) 0 (rowsV f8 (pD (l.take 0))) ((w.alloc (.cells #[.int .i64 0, .int .i64 0, .int .i64 0, .int .i64 0, .slice none 0 0] 30)).alloc (.cells #[] 5)) := Ow.new_ (cs := #[]) (Below.refl _ _) (Nat.le_refl _) (Nat.le_refl _) (Nat.zero_le _) rfl
  have hsz : (w.alloc (.cells #[.int .i64 0, .int .i64 0, .int .i64 0, .int .i64 0, .slice none 0 0] 30)).heap.size = w.heap.size + 1 := by simp
  obtain ⟨W0, gW0⟩ : ∃ z, w.alloc (.cells #[.int .i64 0, .int .i64 0, .int .i64 0, .int .i64 0, .slice none 0 0] 30) = z := ⟨_, rfl⟩
  rw [gW0] at hW hB hO hsz ⊢
  obtain ⟨Az, gAz⟩ : ∃ z : Option Addr, some (⟨w.heap.size + 1, 0, none⟩ : Addr) = z := ⟨_, rfl⟩
  rw [hsz, gAz] at hO
  try rw [hsz]
  rw [gAz]
  obtain ⟨wS, gwS⟩ : ∃ z, W0.alloc (.cells #[] 5) = z := ⟨_, rfl⟩
  rw [gwS] at hO ⊢
  obtain ⟨b2, gb2⟩ : ∃ z, w.heap.size = z := ⟨_, rfl⟩
  have Lb2 : RowKit.Hid (w.heap.size ≤ b2) := Lib.hid (Nat.le_of_eq gb2)
  rw [gb2] at hW ⊢
  have HW := Lib.hid hW
  have HB := Lib.hid hB
  have HO0 : RowKit.Hid (Ow W0 W0.heap.size 5 1 (.slice Az 0 0) 0 (rowsV f8 (pD (l.take 0))) wS) := Lib.hid (by rw [hsz]; exact hO)
  clear hW hB hO hsz gW0 gAz gwS gb2
  go_loopw [4, 5] (fun v i wr => ∃ (k m : Nat) (A1 : Option Addr) (c1 : Nat), 2 * k ≤ n ∧ m = k ∧ v = .slice A1 m c1 ∧ i = .int .i64 ((2 * k : Nat) : Int) ∧ RowKit.Hid (Ow W0 W0.heap.size 5 1 (.slice A1 m c1) m (rowsV f8 (pD (l.take (2 * k)))) wr)) (fun _ i _ => n + 2 - (intOf i).toNat)
  case atStart => exact ⟨0, 0, Az, 0, Nat.zero_le _, rfl, rfl, rfl, HO0⟩
  case round =>
    clear HO0
    obtain ⟨k, m, A1, c1, hk, hm, rfl, rfl, HO⟩ := hrel
    obtain ⟨wo, gwo⟩ : ∃ z, wr = z := ⟨_, rfl⟩
    rw [gwo] at HO ⊢
    clear gwo
    obtain ⟨i, gi⟩ : ∃ z, 2 * k = z := ⟨_, rfl⟩
    have Gi := Lib.hid gi
    rw [gi]
    have hts := Ht.out
    by_cases hlt : i + 1 < n
    · obtain ⟨i1, gi1⟩ : ∃ z, i + 1 = z := ⟨_, rfl⟩
      have e1 : IntKind.i64.wrap ((i : Int) + 1) = (i1 : Int) := by rw [show (i : Int) + 1 = (i1 : Int) by omega]; exact IntWalk.i64_in _ (by omega)
      have hlt1 : (i1 : Int) < (t.size : Int) := by omega
      obtain ⟨a, ha⟩ : ∃ a, l[i]? = some a := ⟨_, List.getElem?_eq_getElem (by have := Hl.out; omega)⟩
      obtain ⟨b, hb⟩ : ∃ b, l[i1]? = some b := ⟨_, List.getElem?_eq_getElem (by have := Hl.out; omega)⟩
      have hN := pD_next k l (a := a) (b := b) (by rw [gi]; exact ha) (by rw [gi, gi1]; exact hb)
      have ha8 := Hb.out a (List.mem_of_getElem? ha)
      have hb8 := Hb.out b (List.mem_of_getElem? hb)
      have hx1 := HIx.out i a ha
      have hx2 := HIx.out i1 b hb
      have da := dg_lt a
      have db := dg_lt b
      have HD1 := Lib.hid (fun W => rdig_any a ha8 W)
      have HD2 := Lib.hid (fun W => rdig_any b hb8 W)
      obtain ⟨d1, gd1⟩ : ∃ z, dg a = z := ⟨_, rfl⟩
      obtain ⟨d2, gd2⟩ : ∃ z, dg b = z := ⟨_, rfl⟩
      rw [gd1] at hN da HD1
      rw [gd2] at hN db HD2
      obtain ⟨s1, gs1⟩ : ∃ z, 16 * d1 = z := ⟨_, rfl⟩
      obtain ⟨v, gv⟩ : ∃ z, s1 + d2 = z := ⟨_, rfl⟩
      have q1 : IntKind.u8.wrap (16 * (d1 : Int)) = (s1 : Int) := by rw [show 16 * (d1 : Int) = (s1 : Int) by omega, IntKind.wrap_u8]; omega
      have q2 : IntKind.u8.wrap ((s1 : Int) + (d2 : Int)) = (v : Int) := by rw [show (s1 : Int) + (d2 : Int) = (v : Int) by omega, IntKind.wrap_u8]; omega
      rw [gs1, gv, gi] at hN
      have HN := Lib.hid hN
      obtain ⟨m1, gm1⟩ : ∃ z, m + 1 = z := ⟨_, rfl⟩
      have Hm1 : RowKit.Hid (m1 = k + 1) := Lib.hid (by omega)
      have hm2 : m ≤ 200000 := by omega
      have HOd : RowKit.Hid (Ow W0 W0.heap.size 5 1 (.slice A1 m c1) m (rowsV f8 (pD (l.take i))) wo.drew) := Lib.hid (by rw [← gi]; exact ⟨HO.out.own, HO.out.below.drew, HO.out.lo, HO.out.hi⟩)
      have Hk1 : RowKit.Hid (2 * (k + 1) ≤ n ∧ i + 2 = 2 * (k + 1)) := Lib.hid (by omega)
      clear ha hb hN ha8 hb8 da db gd1 gd2 gs1 gv gi gi1 hm HO hts
      go_upto_region 5 with fail
      refine wp_region_reg (fun i => some i = (Value.slice A1 m c1).ownBlock) (by kernel_rfl) ?_
      refine opR_ 0 14 (v := ?_) ?_ ?_; rotate_left
      · intro w' hw'; go_simp; (try with_reducible rfl)
      simp only [st0_, st1_]
      refine opR_ 1 15 (v := ?_) ?_ ?_; rotate_left
      · intro w' hw'; go_simp; (try with_reducible rfl)
      simp only [st0_, st1_]
      refine opR_ 2 16 (v := ?_) ?_ ?_; rotate_left
      · intro w' hw'; go_simp; (try with_reducible rfl)
      simp only [st0_, st1_]
      refine opR_ 3 17 (v := ?_) ?_ ?_; rotate_left
      · intro w' hw'; go_simp; (try with_reducible rfl)
      simp only [st0_, st1_]
      refine opX_ 4 18 ?_
      apply Exists.intro
      apply And.intro
      · apply yr_call; rfl; rotate_left; intro w' hw'; exact HD1.out w'; intro w'; go_simp
      simp only [st0_, st1_]
      refine opR_ 5 19 (v := ?_) ?_ ?_; rotate_left
      · intro w' hw'; go_simp; (try with_reducible rfl)
      simp only [st0_, st1_]
      refine opR_ 6 20 (v := ?_) ?_ ?_; rotate_left
      · intro w' hw'; go_simp; (try with_reducible rfl)
      simp only [st0_, st1_]
      refine opR_ 7 21 (v := ?_) ?_ ?_; rotate_left
      · intro w' hw'; go_simp; (try with_reducible rfl)
      simp only [st0_, st1_]
      refine opR_ 8 22 (v := ?_) ?_ ?_; rotate_left
      · intro w' hw'; go_simp; (try with_reducible rfl)
      simp only [st0_, st1_]
      refine opR_ 9 23 (v := ?_) ?_ ?_; rotate_left
      · intro w' hw'; go_simp; (try with_reducible rfl)
      simp only [st0_, st1_]
      refine opX_ 10 24 ?_
      apply Exists.intro
      apply And.intro
      · apply yr_call; rfl; rotate_left; intro w' hw'; exact HD2.out w'; intro w'; go_simp
      simp only [st0_, st1_]
      refine opR_ 11 25 (v := ?_) ?_ ?_; rotate_left
      · intro w' hw'; go_simp; (try with_reducible rfl)
      simp only [st0_, st1_]
      apply wpR_run 12 (some 26)
      · rfl
      · rfl
      · kernel_rfl
      · rfl
      intro w' hw'
      refine ⟨.slice (some ⟨w'.heap.size, 0, none⟩) 1 1, w'.alloc (.cells #[.int .u8 (v : Int)] 5), exec_buildSlice 23 5 1 #[(0, .tmp 25)] (by rfl) Try.underlying23 _ (by kernel_rfl), Kept.of_below (below1 _ _), ?_⟩
      have HXd : RowKit.Hid (Ext wo.drew (w'.alloc (.cells #[.int .u8 (v : Int)] 5))) := Lib.hid (Ext.trans hw' (below1 _ _))
      have HL : RowKit.Hid (RdS (w'.alloc (.cells #[.int .u8 (v : Int)] 5)) (w'.alloc (.cells #[.int .u8 (v : Int)] 5)).heap.size 1 (some ⟨w'.heap.size, 0, none⟩) 1 1 (rowsV f8 [v])) := Lib.hid (one8 w' v)
      obtain ⟨W3, gW3⟩ : ∃ z, w'.alloc (.cells #[.int .u8 (v : Int)] 5) = z := ⟨_, rfl⟩
      obtain ⟨g3, gg3⟩ : ∃ z, w'.heap.size = z := ⟨_, rfl⟩
      rw [gW3] at HXd HL ⊢
      rw [gg3] at HL ⊢
      clear hw' gW3 gg3
      simp only [Act.put, stA_, st0_, st1_]
      apply wpR_run 13 (some 27)
      · rfl
      · rfl
      · kernel_rfl
      · rfl
      intro w' hw'
      have hO8 := HOd.out.up (Ext.trans HXd.out hw')
      obtain ⟨A8, c8, w8, hrun8, ho8, hgr8⟩ := app8 23 hO8 (HL.out.bl hw') (by omega)
      refine ⟨_, w8, exec_append (by rfl) (by rfl) (by rfl) hrun8, kept_grow hgr8 (fun i hi => hi), ?_⟩
      have HO9 := Lib.hid ho8
      clear hw' hO8 hrun8 ho8 hgr8 HXd HL HOd
      simp only [Act.put, stA_, st0_, st1_]
      refine opR_ 14 4 (v := ?_) ?_ ?_; rotate_left
      · intro w' hw'; go_simp; (try with_reducible rfl)
      simp only [st0_, st1_]
      refine wpR_done (by kernel_rfl) ?_ _
      intro W9 hw9
      have HO10 := Lib.hid (HO9.out.up hw9)
      rw [← HN.out, gm1] at HO10
      rw [gm1]
      clear hw9 HO9 e1 hx1 hx2 q1 q2 HN HD1 HD2 gm1 hlt1
      go_wp2
      go_roundw
      case rel => exact ⟨k + 1, m1, A8, c8, Hk1.out.1, Hm1.out, rfl, by rw [← Hk1.out.2]; go_num, HO10⟩
      case measure => have := Hk1.out; simp [intOf]; omega
    · have e1 : IntKind.i64.wrap ((i : Int) + 1) = (i : Int) + 1 := IntWalk.i64_in _ (by omega)
      have hnl : ¬ (i : Int) + 1 < (t.size : Int) := by omega
      have hfull : pD (l.take (2 * k)) = pD l := by
        by_cases hev : 2 * k = n
        · rw [List.take_of_length_le (by rw [Hl.out]; omega)]
        · have h1 : n = 2 * k + 1 := by omega
          obtain ⟨c, hc⟩ : ∃ c, l[2 * k]? = some c := ⟨_, List.getElem?_eq_getElem (by have := Hl.out; omega)⟩
          have e : l = l.take (2 * k) ++ [c] := by
            conv => lhs; rw [← List.take_of_length_le (l := l) (i := 2 * k + 1) (by rw [Hl.out]; omega)]
            rw [List.take_add_one, hc]; rfl
          have : ∀ (q : Nat) (L : List Nat) (x : Nat), L.length = 2 * q → pD (L ++ [x]) = pD L := fun q => by
            induction q with
            | zero => intro L x hL; match L, hL with | [], _ => rfl
            | succ q ih =>
              intro L x hL
              match L, hL with
              | a :: b :: L, hL =>
                show _ :: pD (L ++ [x]) = _ :: pD L
                rw [ih L x (by simp only [List.length_cons] at hL; omega)]
          conv => rhs; rw [e]
          rw [this k _ _ (by rw [List.length_take, Hl.out]; omega)]
      have ho := HO.out
      rw [hfull] at ho
      have hlen := pD_len l
      have hml : (pD l).length = m := by rw [hlen, Hl.out]; omega
      have HRd := Lib.hid (own_rds ho.own)
      have HWz := Lib.hid (HW.out.bl ho.below)
      have HBz := Lib.hid (bel_bl HB.out ho.below)
      have Hml := Lib.hid hml
      have hm9 : m ≤ 90000 := by omega
      have hPl := pD_lt l
      have Hde : RowKit.Hid (t.toList = l.map UInt8.ofNat) := Lib.hid (by rw [← Gt.out]; exact txt_list l)
      clear hfull ho hlen hml HO hm hk gi hts
      go_wp2_with fail
      clear e1 hnl
      refine (digs_any A1 m c1 (pD l) wo Hml.out HRd.out (by omega) hPl).mono ?_
      rintro e w3 ⟨rfl, hb3⟩
      have HRd3 := Lib.hid (HRd.out.bl hb3)
      have HW3 := Lib.hid (HWz.out.bl hb3)
      have HB3 := Lib.hid (bel_bl HBz.out hb3)
      have hteq : (((txt (dgs (pD l))).toList == t.toList)) = okD l := by
        rw [← Gt.out]
        exact txt_eq (dgs_lt hPl) Hb.out
      obtain ⟨u, gu⟩ : ∃ z, txt (dgs (pD l)) = z := ⟨_, rfl⟩
      rw [gu] at hteq ⊢
      clear hb3 HRd HWz HBz gu
      have f0 := HW3.out.free 0
      have f1 := HW3.out.free 1
      have f2 := HW3.out.free 2
      have f3 := HW3.out.free 3
      have f4 := HW3.out.free 4
      have k0 := HW3.out.cell (i := 0) rfl
      have k1 := HW3.out.cell (i := 1) rfl
      have k2 := HW3.out.cell (i := 2) rfl
      have k3 := HW3.out.cell (i := 3) rfl
      have k4 := HW3.out.cell (i := 4) rfl
      cases hok : okD l with
      | false =>
        rw [hok] at hteq
        have hno := ln_no hok
        have HY := Lib.hid (((((HW3.out.set_ 0 (.int .i64 0)).set_ 1 (.int .i64 0)).set_ 2 (.int .i64 0)).set_ 3 (.int .i64 0)).set_ 4 (.slice none 0 0))
        have HP : RowKit.Hid (GivesS w (lnV l) (lnE l) (.returned (.tuple #[.agg #[.int .i64 0, .int .i64 0, .int .i64 0, .int .i64 0, .slice none 0 0], .int .i64 240])) (((((w3.setCell ⟨b2, 0, none⟩ (.int .i64 0)).setCell ⟨b2, 1, none⟩ (.int .i64 0)).setCell ⟨b2, 2, none⟩ (.int .i64 0)).setCell ⟨b2, 3, none⟩ (.int .i64 0)).setCell ⟨b2, 4, none⟩ (.slice none 0 0))) := Lib.hid (by
          rw [hno.1, hno.2.1]
          exact ⟨none, 0, 0, rfl, rfl, World.ownsRow_nil _ _ _ _, ((((HB3.out.setCell (p := ⟨b2, 0, none⟩) Lb2.out _).setCell (p := ⟨b2, 1, none⟩) Lb2.out _).setCell (p := ⟨b2, 2, none⟩) Lb2.out _).setCell (p := ⟨b2, 3, none⟩) Lb2.out _).setCell (p := ⟨b2, 4, none⟩) Lb2.out _⟩)
        clear hok hno HW3 HB3 HRd3
        go_wp2
        exact ret_whole2 rfl b2 rfl rfl HY.out Try.underlying30 rfl (by kernel_rfl) rfl HP.out
      | true =>
        rw [hok] at hteq
        have hyes := ln_yes hok
        have HT := Lib.hid (rtake23_any A1 m c1 (pD l) w3 Hml.out HRd3.out hm9 hPl)
        have HV : RowKit.Hid (lnV l = tkS (pD l) ∧ lnE l = tkSE (pD l)) := Lib.hid ⟨hyes.1, hyes.2.1⟩
        obtain ⟨⟨⟨x1, x2, x3, x4⟩, V⟩, gx⟩ : ∃ z, tkS (pD l) = z := ⟨_, rfl⟩
        obtain ⟨y, gy⟩ : ∃ z, tkSE (pD l) = z := ⟨_, rfl⟩
        rw [gx, gy] at HT HV
        clear hok hyes gx gy HRd3 f0 f1 f2 f3 f4 k0 k1 k2 k3 k4
        go_wp2_with fail
        refine HT.out.mono ?_
        intro e w4 hg
        obtain ⟨A4, n4, c4, rfl, hn4, ho4, hb4⟩ := gives_s hg
        have HW4 := Lib.hid (HW3.out.bl hb4)
        have HB4 := Lib.hid (bel_bl HB3.out hb4)
        have hlt2 := HW3.out.lt
        have hne : some b2 ≠ (Value.slice A4 n4 c4).ownBlock := fun e => by have := (ho4.lt b2 e.symm).1; omega
        have HY := Lib.hid (((((HW4.out.set_ 0 (.int .i64 x1)).set_ 1 (.int .i64 x2)).set_ 2 (.int .i64 x3)).set_ 3 (.int .i64 x4)).set_ 4 (.slice A4 n4 c4))
        have HP : RowKit.Hid (GivesS w (lnV l) (lnE l) (.returned (.tuple #[.agg #[.int .i64 x1, .int .i64 x2, .int .i64 x3, .int .i64 x4, .slice A4 n4 c4], .int .i64 y])) (((((w4.setCell ⟨b2, 0, none⟩ (.int .i64 x1)).setCell ⟨b2, 1, none⟩ (.int .i64 x2)).setCell ⟨b2, 2, none⟩ (.int .i64 x3)).setCell ⟨b2, 3, none⟩ (.int .i64 x4)).setCell ⟨b2, 4, none⟩ (.slice A4 n4 c4))) := Lib.hid (by
          rw [HV.out.1, HV.out.2]
          exact ⟨A4, n4, c4, rfl, hn4, own_lo8 (own_cell_far (own_cell_far (own_cell_far (own_cell_far (own_cell_far ho4 hne _) hne _) hne _) hne _) hne _) HB3.out.size, ((((HB4.out.setCell (p := ⟨b2, 0, none⟩) Lb2.out _).setCell (p := ⟨b2, 1, none⟩) Lb2.out _).setCell (p := ⟨b2, 2, none⟩) Lb2.out _).setCell (p := ⟨b2, 3, none⟩) Lb2.out _).setCell (p := ⟨b2, 4, none⟩) Lb2.out _⟩)
        have f0 := HW4.out.free 0
        have f1 := HW4.out.free 1
        have f2 := HW4.out.free 2
        have f3 := HW4.out.free 3
        have f4 := HW4.out.free 4
        have k0 := HW4.out.cell (i := 0) rfl
        have k1 := HW4.out.cell (i := 1) rfl
        have k2 := HW4.out.cell (i := 2) rfl
        have k3 := HW4.out.cell (i := 3) rfl
        have k4 := HW4.out.cell (i := 4) rfl
        clear hg hn4 ho4 hb4 hlt2 hne HW3 HB3 HT HW4 HB4
        go_wp2
        exact ret_whole2 rfl b2 rfl rfl HY.out Try.underlying30 rfl (by kernel_rfl) rfl HP.out
end Go.Proofs.Ytinfbaflkjghhaa
/- A line read. -/
namespace Go.Proofs.Ytinfbaflkjghhaa
open Go.RowKit
def GivesRd (w : World) (x : SD) (ok : Bool) (e : Ending) (w' : World) : Prop :=
  ∃ A n c, e = .returned (.tuple #[.agg (stC (x.1, (A, n, c, x.2))).toArray, .bool ok]) ∧ n = x.2.length ∧ w'.ownsRow w.heap.size 53 20 (.slice A n c) n (rowsV opCells x.2) ∧ Below w.heap.size w w'
def hv (c : Nat) : Int := if vD c = true then (dg c : Int) else -1
theorem idxb_all : ∀ c : Nat, c < 256 → Lib.indexByte (({ data := #[48, 49, 50, 51, 52, 53, 54, 55, 56, 57, 97, 98, 99, 100, 101, 102] } : ByteArray).data.toList) ((c : Int).toNat.toUInt8) = hv c := by
  have h : ∀ c : Fin 256, Lib.indexByte (({ data := #[48, 49, 50, 51, 52, 53, 54, 55, 56, 57, 97, 98, 99, 100, 101, 102] } : ByteArray).data.toList) ((c.val : Int).toNat.toUInt8) = hv c.val := by decide +kernel
  exact fun c hc => h ⟨c, hc⟩
theorem idxb_any (c : Nat) (hc : c < 256) (w : World) : Calls Try.prog 56 #[.string { data := #[48, 49, 50, 51, 52, 53, 54, 55, 56, 57, 97, 98, 99, 100, 101, 102] }, .int .u8 (c : Int)] w fun e w' => e = .returned (.int .i64 (hv c)) ∧ Below w.heap.size w w' := by
  refine (Try.strings_IndexByte { data := #[48, 49, 50, 51, 52, 53, 54, 55, 56, 57, 97, 98, 99, 100, 101, 102] } (c : Int) w).mono ?_
  rintro e w' ⟨rfl, rfl⟩
  exact ⟨by rw [idxb_all c hc], Below.refl _ _⟩
theorem or_16 : ∀ a b : Nat, a < 16 → b < 16 → bits .or .i64 ((16 * a : Nat) : Int) (b : Int) = ((16 * a + b : Nat) : Int) := by
  have h : ∀ a b : Fin 16, bits .or .i64 ((16 * a.val : Nat) : Int) (b.val : Int) = ((16 * a.val + b.val : Nat) : Int) := by decide +kernel
  exact fun a b ha hb => h ⟨a, ha⟩ ⟨b, hb⟩
theorem cut_yes (l : List Nat) : Lib.hasSuffix (txt (l ++ [10])).data.toList ({ data := #[10] } : ByteArray).data.toList = true ∧ (⟨(Lib.trimSuffix (txt (l ++ [10])).data.toList ({ data := #[10] } : ByteArray).data.toList).toArray⟩ : ByteArray) = txt l := by
  have e : (txt (l ++ [10])).data.toList = l.map UInt8.ofNat ++ [10] := by rw [txt_data, List.map_append]; rfl
  have e2 : ({ data := #[10] } : ByteArray).data.toList = [10] := rfl
  have h : Lib.hasSuffix (l.map UInt8.ofNat ++ [10]) [10] = true := by
    unfold Lib.hasSuffix
    rw [List.isSuffixOf_iff_suffix]
    exact List.suffix_append _ _
  rw [e, e2]
  refine ⟨h, ?_⟩
  unfold Lib.trimSuffix
  rw [h, if_pos rfl]
  have h9 : ∀ q : List UInt8, (q ++ [10]).take ((q ++ [10]).length - [(10 : UInt8)].length) = q := by
    intro q
    rw [List.length_append, Nat.add_sub_cancel]
    exact List.take_left
  exact (congrArg (fun q : List UInt8 => (⟨q.toArray⟩ : ByteArray)) (h9 _)).trans (txt_mk l)
theorem cut_no {l : List Nat} (hb : ∀ b ∈ l, b < 256) (h : ¬ 10 ∈ l) : Lib.hasSuffix (txt l).data.toList ({ data := #[10] } : ByteArray).data.toList = false ∧ (⟨(Lib.trimSuffix (txt l).data.toList ({ data := #[10] } : ByteArray).data.toList).toArray⟩ : ByteArray) = txt l := by
  have e2 : ({ data := #[10] } : ByteArray).data.toList = [10] := rfl
  have h2 : Lib.hasSuffix (l.map UInt8.ofNat) [10] = false := by
    cases hq : Lib.hasSuffix (l.map UInt8.ofNat) [10] with
    | false => rfl
    | true =>
      unfold Lib.hasSuffix at hq
      rw [List.isSuffixOf_iff_suffix] at hq
      obtain ⟨t, ht⟩ := hq
      have hm : (10 : UInt8) ∈ l.map UInt8.ofNat := by rw [← ht]; simp
      obtain ⟨c, hc, h3⟩ := List.mem_map.1 hm
      have := ofNat_inj (a := c) (b := 10) (hb c hc) (by decide) h3
      exact absurd (this ▸ hc) h
  rw [txt_data, e2]
  refine ⟨h2, ?_⟩
  unfold Lib.trimSuffix
  rw [h2]
  simp only [Bool.false_eq_true, if_false]
  exact txt_mk l
set_option maxRecDepth 100000 in
set_option maxHeartbeats 4000000 in
theorem read_no (l : List Nat) (w : World) (hn : l.length ≤ 100000) (hb : ∀ b ∈ l, b < 256) (h10 : ¬ 10 ∈ l) :
    Calls Try.prog 34 #[.string (txt l)] w (GivesRd w zS false) := by
  have hc := cut_no hb h10
  have hsz : (txt l).size ≤ 9223372036854775807 := by rw [txt_size]; omega
  obtain ⟨t, gt⟩ : ∃ z, txt l = z := ⟨_, rfl⟩
  rw [gt] at hc hsz ⊢
  have HCt := Lib.hid (fun W => Try.strings_CutSuffix t { data := #[10] } W hsz)
  have HC := Lib.hid hc
  obtain ⟨X, gX⟩ : ∃ z, zS = z := ⟨_, rfl⟩
  obtain ⟨K, gK⟩ : ∃ z, false = z := ⟨_, rfl⟩
  rw [gX, gK]
  have HXK := Lib.hid (And.intro gX.symm gK.symm)
  clear hc hsz gt gX gK
  have hW : Whole (w.alloc (.cells #[.int .i64 0, .int .i64 0, .int .i64 0, .int .i64 0, .slice none 0 0] 30)) w.heap.size 30 [.int .i64 0, .int .i64 0, .int .i64 0, .int .i64 0, .slice none 0 0] := Whole.new_ _ _ [_, _, _, _, _]
  have hB := below1 w (.cells #[.int .i64 0, .int .i64 0, .int .i64 0, .int .i64 0, .slice none 0 0] 30)
  go_enter Try.func34, Try.ntmps34
  go_wp2_with fail
  obtain ⟨W0, gW0⟩ : ∃ z, w.alloc (.cells #[.int .i64 0, .int .i64 0, .int .i64 0, .int .i64 0, .slice none 0 0] 30) = z := ⟨_, rfl⟩
  obtain ⟨b2, gb2⟩ : ∃ z, w.heap.size = z := ⟨_, rfl⟩
  have Lb2 : RowKit.Hid (w.heap.size ≤ b2) := Lib.hid (Nat.le_of_eq gb2)
  rw [gW0] at hW hB ⊢
  rw [gb2] at hW ⊢
  have HW := Lib.hid hW
  have HB := Lib.hid hB
  clear hW hB gW0 gb2
  refine (HCt.out W0).mono ?_
  rintro e w1 ⟨rfl, rfl⟩
  rw [HC.out.1, HC.out.2]
  clear HC HCt
  have f0 := HW.out.free 0
  have f1 := HW.out.free 1
  have f2 := HW.out.free 2
  have f3 := HW.out.free 3
  have f4 := HW.out.free 4
  have k0 := HW.out.cell (i := 0) rfl
  have k1 := HW.out.cell (i := 1) rfl
  have k2 := HW.out.cell (i := 2) rfl
  have k3 := HW.out.cell (i := 3) rfl
  have k4 := HW.out.cell (i := 4) rfl
  have HY := Lib.hid (((((HW.out.set_ 0 (.int .i64 0)).set_ 1 (.int .i64 0)).set_ 2 (.int .i64 0)).set_ 3 (.int .i64 0)).set_ 4 (.slice none 0 0))
  have HP : RowKit.Hid (GivesRd w X K (.returned (.tuple #[.agg #[.int .i64 0, .int .i64 0, .int .i64 0, .int .i64 0, .slice none 0 0], .bool false])) (((((w1.setCell ⟨b2, 0, none⟩ (.int .i64 0)).setCell ⟨b2, 1, none⟩ (.int .i64 0)).setCell ⟨b2, 2, none⟩ (.int .i64 0)).setCell ⟨b2, 3, none⟩ (.int .i64 0)).setCell ⟨b2, 4, none⟩ (.slice none 0 0))) := Lib.hid (by
    rw [HXK.out.1, HXK.out.2]
    exact ⟨none, 0, 0, rfl, rfl, World.ownsRow_nil _ _ _ _, (((((HB.out.setCell (p := ⟨b2, 0, none⟩) Lb2.out (.int .i64 0)).setCell (p := ⟨b2, 1, none⟩) Lb2.out (.int .i64 0)).setCell (p := ⟨b2, 2, none⟩) Lb2.out (.int .i64 0)).setCell (p := ⟨b2, 3, none⟩) Lb2.out (.int .i64 0)).setCell (p := ⟨b2, 4, none⟩) Lb2.out (.slice none 0 0))⟩)
  clear HW HB HXK
  go_wp2
  exact ret_whole2 rfl b2 rfl rfl HY.out Try.underlying30 rfl (by kernel_rfl) rfl HP.out
set_option maxRecDepth 100000 in
set_option maxHeartbeats 4000000 in
theorem read_nl (l : List Nat) (w : World) (hn : l.length ≤ 100000) (hb : ∀ b ∈ l, b < 256) :
    Calls Try.prog 34 #[.string (txt (l ++ [10]))] w (GivesRd w (lnV l) (lnO l)) := by
  have hc := cut_yes l
  have hsz : (txt (l ++ [10])).size ≤ 9223372036854775807 := by rw [txt_size, List.length_append]; simp; omega
  obtain ⟨t', gt'⟩ : ∃ z, txt (l ++ [10]) = z := ⟨_, rfl⟩
  rw [gt'] at hc hsz ⊢
  have HCt := Lib.hid (fun W => Try.strings_CutSuffix t' { data := #[10] } W hsz)
  obtain ⟨n, gn⟩ : ∃ z, l.length = z := ⟨_, rfl⟩
  have Hl := Lib.hid gn
  have Hb := Lib.hid hb
  have hts : (txt l).size = n := by rw [txt_size]; exact gn
  have hIx : ∀ (i c : Nat), l[i]? = some c → ∀ W, (Instr.index 9 (.string (txt l)) (.int .i64 (i : Int))).run Try.prog W = .ok (.int .u8 (c : Int)) W := fun i c h W => idx_txt hb h W
  obtain ⟨t, gt⟩ : ∃ z, txt l = z := ⟨_, rfl⟩
  rw [gt] at hts hIx hc
  have HC := Lib.hid hc
  have Ht := Lib.hid hts
  have HIx := Lib.hid hIx
  rw [gn] at hn
  obtain ⟨X, gX⟩ : ∃ z, lnV l = z := ⟨_, rfl⟩
  obtain ⟨K, gK⟩ : ∃ z, lnO l = z := ⟨_, rfl⟩
  rw [gX, gK]
  have HXK := Lib.hid (And.intro gX gK)
  clear hc hsz gt gt' gn hb hts hIx gX gK
  have hW : Whole (w.alloc (.cells #[.int .i64 0, .int .i64 0, .int .i64 0, .int .i64 0, .slice none 0 0] 30)) w.heap.size 30 [.int .i64 0, .int .i64 0, .int .i64 0, .int .i64 0, .slice none 0 0] := Whole.new_ _ _ [_, _, _, _, _]
  have hB := below1 w (.cells #[.int .i64 0, .int .i64 0, .int .i64 0, .int .i64 0, .slice none 0 0] 30)
  go_enter Try.func34, Try.ntmps34
  go_wp2_with fail
  obtain ⟨W0, gW0⟩ : ∃ z, w.alloc (.cells #[.int .i64 0, .int .i64 0, .int .i64 0, .int .i64 0, .slice none 0 0] 30) = z := ⟨_, rfl⟩
  obtain ⟨b2, gb2⟩ : ∃ z, w.heap.size = z := ⟨_, rfl⟩
  have Lb2 : RowKit.Hid (w.heap.size ≤ b2) := Lib.hid (Nat.le_of_eq gb2)
  rw [gW0] at hW hB ⊢
  rw [gb2] at hW ⊢
  have HW := Lib.hid hW
  have HB := Lib.hid hB
  clear hW hB gW0 gb2
  refine (HCt.out W0).mono ?_
  rintro e w1 ⟨rfl, rfl⟩
  rw [HC.out.1, HC.out.2]
  clear HC HCt
  by_cases hev : n % 2 = 0
  · obtain ⟨h, gh⟩ : ∃ h, n = 2 * h := ⟨n / 2, by omega⟩
    have hts := Ht.out
    have hz : ((t.size : Int).tmod 2 != 0) = false := by
      rw [hts, Int.tmod_eq_emod_of_nonneg (by omega), show (n : Int) % 2 = 0 by omega]; rfl
    have hz2 : ((t.size : Int) % 2 != 0) = false := by
      rw [hts, show (n : Int) % 2 = 0 by omega]; rfl
    have Hh := Lib.hid gh
    clear gh hts hev
    go_upto_region 6 with fail
    clear hz hz2
    have HO0 : RowKit.Hid (Ow w1 w1.heap.size 5 1 (.slice none 0 0) 0 (rowsV f8 (pD (l.take (2 * 0)))) w1) := Lib.hid (Ow.nil_ (Below.refl _ _) (Nat.le_refl _) (Nat.le_refl _))
    go_loopw [5, 6] (fun v i wr => ∃ (k m : Nat) (A1 : Option Addr) (c1 : Nat), 2 * k ≤ n ∧ m = k ∧ v = .slice A1 m c1 ∧ i = .int .i64 ((2 * k : Nat) : Int) ∧ RowKit.Hid (∀ c ∈ l.take (2 * k), vD c = true) ∧ RowKit.Hid (Ow w1 w1.heap.size 5 1 (.slice A1 m c1) m (rowsV f8 (pD (l.take (2 * k)))) wr)) (fun _ i _ => n + 2 - (intOf i).toNat)
    case atStart => exact ⟨0, 0, none, 0, Nat.zero_le _, rfl, rfl, rfl, Lib.hid (fun c hc => by cases hc), HO0⟩
    case round =>
      clear HO0
      obtain ⟨k, m, A1, c1, hk, hm, rfl, rfl, HV, HO⟩ := hrel
      obtain ⟨wo, gwo⟩ : ∃ z, wr = z := ⟨_, rfl⟩
      rw [gwo] at HO ⊢
      clear gwo
      obtain ⟨i, gi⟩ : ∃ z, 2 * k = z := ⟨_, rfl⟩
      rw [gi] at hk HV HO ⊢
      have hts := Ht.out
      have hpar := Hh.out
      by_cases hlt : i < n
      · have hlt1 : i + 1 < n := by omega
        obtain ⟨i1, gi1⟩ : ∃ z, i + 1 = z := ⟨_, rfl⟩
        have e1 : IntKind.i64.wrap ((i : Int) + 1) = (i1 : Int) := by rw [show (i : Int) + 1 = (i1 : Int) by omega]; exact IntWalk.i64_in _ (by omega)
        have hltI : (i : Int) < (t.size : Int) := by omega
        obtain ⟨a, ha⟩ : ∃ a, l[i]? = some a := ⟨_, List.getElem?_eq_getElem (by have := Hl.out; omega)⟩
        obtain ⟨b, hb⟩ : ∃ b, l[i1]? = some b := ⟨_, List.getElem?_eq_getElem (by have := Hl.out; omega)⟩
        have hN := pD_next k l (a := a) (b := b) (by rw [gi]; exact ha) (by rw [gi, gi1]; exact hb)
        have ha8 := Hb.out a (List.mem_of_getElem? ha)
        have hb8 := Hb.out b (List.mem_of_getElem? hb)
        have Hma := Lib.hid (And.intro (List.mem_of_getElem? ha) (List.mem_of_getElem? hb))
        have hx1 := HIx.out i a ha
        have hx2 := HIx.out i1 b hb
        have HI1 := Lib.hid (fun W => idxb_any a ha8 W)
        have HI2 := Lib.hid (fun W => idxb_any b hb8 W)
        have htk : l.take (i + 2) = l.take i ++ [a, b] := by
          rw [show i + 2 = (i + 1) + 1 by omega, List.take_add_one, List.take_add_one, ha, gi1, hb]
          simp
        have Htk := Lib.hid htk
        have hav : hv a = if vD a = true then (dg a : Int) else -1 := rfl
        have hbv : hv b = if vD b = true then (dg b : Int) else -1 := rfl
        obtain ⟨p1, gp1⟩ : ∃ z, hv a = z := ⟨_, rfl⟩
        obtain ⟨p2, gp2⟩ : ∃ z, hv b = z := ⟨_, rfl⟩
        rw [gp1] at HI1 hav
        rw [gp2] at HI2 hbv
        have Hav := Lib.hid hav
        have Hbv := Lib.hid hbv
        have HN := Lib.hid hN
        have Hk := Lib.hid (show 2 * (k + 1) ≤ n ∧ i + 2 = 2 * (k + 1) ∧ 2 * (k + 1) = i + 2 by omega)
        have Hm := Lib.hid (show m + 1 = k + 1 ∧ m ≤ 100000 by omega)
        have da := dg_lt a
        have db := dg_lt b
        clear ha hb hN ha8 hb8 htk gp1 gp2 hav hbv hm hts hpar gi1
        go_upto_region 8 with fail
        refine wp_region_reg (Nil_) (by kernel_rfl) ?_
        refine opR_ 0 31 (v := ?_) ?_ ?_; rotate_left
        · intro w' hw'; go_simp; (try with_reducible rfl)
        simp only [st0_, st1_]
        refine opR_ 1 32 (v := ?_) ?_ ?_; rotate_left
        · intro w' hw'; go_simp; (try with_reducible rfl)
        simp only [st0_, st1_]
        refine opR_ 2 33 (v := ?_) ?_ ?_; rotate_left
        · intro w' hw'; go_simp; (try with_reducible rfl)
        simp only [st0_, st1_]
        refine opX_ 3 34 ?_
        apply Exists.intro
        apply And.intro
        · apply yr_call; rfl; rotate_left; intro w' hw'; exact HI1.out w'; intro w'; go_simp
        simp only [st0_, st1_]
        refine opR_ 4 35 (v := ?_) ?_ ?_; rotate_left
        · intro w' hw'; go_simp; (try with_reducible rfl)
        simp only [st0_, st1_]
        refine opR_ 5 36 (v := ?_) ?_ ?_; rotate_left
        · intro w' hw'; go_simp; (try with_reducible rfl)
        simp only [st0_, st1_]
        refine opR_ 6 37 (v := ?_) ?_ ?_; rotate_left
        · intro w' hw'; go_simp; (try with_reducible rfl)
        simp only [st0_, st1_]
        refine opR_ 7 38 (v := ?_) ?_ ?_; rotate_left
        · intro w' hw'; go_simp; (try with_reducible rfl)
        simp only [st0_, st1_]
        refine opX_ 8 39 ?_
        apply Exists.intro
        apply And.intro
        · apply yr_call; rfl; rotate_left; intro w' hw'; exact HI2.out w'; intro w'; go_simp
        simp only [st0_, st1_]
        refine opR_ 9 7 (v := ?_) ?_ ?_; rotate_left
        · intro w' hw'; go_simp; (try with_reducible rfl)
        simp only [st0_, st1_]
        refine opR_ 10 8 (v := ?_) ?_ ?_; rotate_left
        · intro w' hw'; go_simp; (try with_reducible rfl)
        simp only [st0_, st1_]
        refine wpR_done (by kernel_rfl) ?_ _
        intro W3 hw3
        have hw4 := bel_bl (bel_dr (Below.refl wo.heap.size wo)) hw3
        have HO3 := Lib.hid (HO.out.up hw4)
        have HW3 := Lib.hid ((HW.out.bl HO.out.below).bl hw4)
        have HB3 := Lib.hid (bel_bl (bel_bl HB.out HO.out.below) hw4)
        clear hw3 hw4 HO hx1 hx2 HI1 HI2 e1 hltI
        cases hva : vD a with
        | false =>
          obtain rfl : p1 = -1 := by have := Hav.out; rw [hva] at this; simpa using this
          have hXK := ln_no (okD_bad Hma.out.1 hva)
          have HX2 : RowKit.Hid (X = zS ∧ K = false) := Lib.hid ⟨HXK.out.1.symm.trans hXK.1, HXK.out.2.symm.trans hXK.2.2⟩
          clear hXK hva
          have f0 := HW3.out.free 0
          have f1 := HW3.out.free 1
          have f2 := HW3.out.free 2
          have f3 := HW3.out.free 3
          have f4 := HW3.out.free 4
          have k0 := HW3.out.cell (i := 0) rfl
          have k1 := HW3.out.cell (i := 1) rfl
          have k2 := HW3.out.cell (i := 2) rfl
          have k3 := HW3.out.cell (i := 3) rfl
          have k4 := HW3.out.cell (i := 4) rfl
          have HY := Lib.hid (((((HW3.out.set_ 0 (.int .i64 0)).set_ 1 (.int .i64 0)).set_ 2 (.int .i64 0)).set_ 3 (.int .i64 0)).set_ 4 (.slice none 0 0))
          have HP : RowKit.Hid (GivesRd w X K (.returned (.tuple #[.agg #[.int .i64 0, .int .i64 0, .int .i64 0, .int .i64 0, .slice none 0 0], .bool false])) (((((W3.setCell ⟨b2, 0, none⟩ (.int .i64 0)).setCell ⟨b2, 1, none⟩ (.int .i64 0)).setCell ⟨b2, 2, none⟩ (.int .i64 0)).setCell ⟨b2, 3, none⟩ (.int .i64 0)).setCell ⟨b2, 4, none⟩ (.slice none 0 0))) := Lib.hid (by
            rw [HX2.out.1, HX2.out.2]
            exact ⟨none, 0, 0, rfl, rfl, World.ownsRow_nil _ _ _ _, (((((HB3.out.setCell (p := ⟨b2, 0, none⟩) Lb2.out (.int .i64 0)).setCell (p := ⟨b2, 1, none⟩) Lb2.out (.int .i64 0)).setCell (p := ⟨b2, 2, none⟩) Lb2.out (.int .i64 0)).setCell (p := ⟨b2, 3, none⟩) Lb2.out (.int .i64 0)).setCell (p := ⟨b2, 4, none⟩) Lb2.out (.slice none 0 0))⟩)
          clear HW3 HB3 HO3 HXK HX2
          go_wp2
          exact ret_whole2 rfl b2 rfl rfl HY.out Try.underlying30 rfl (by kernel_rfl) rfl HP.out
        | true =>
          have hp1 : p1 = (dg a : Int) := by have := Hav.out; rw [hva] at this; simpa using this
          cases hvb : vD b with
          | false =>
            obtain rfl : p2 = -1 := by have := Hbv.out; rw [hvb] at this; simpa using this
            have hXK := ln_no (okD_bad Hma.out.2 hvb)
            have HX2 : RowKit.Hid (X = zS ∧ K = false) := Lib.hid ⟨HXK.out.1.symm.trans hXK.1, HXK.out.2.symm.trans hXK.2.2⟩
            have hp0 : ¬ p1 < 0 := by rw [hp1]; omega
            clear hXK hva hvb hp1
            have f0 := HW3.out.free 0
            have f1 := HW3.out.free 1
            have f2 := HW3.out.free 2
            have f3 := HW3.out.free 3
            have f4 := HW3.out.free 4
            have k0 := HW3.out.cell (i := 0) rfl
            have k1 := HW3.out.cell (i := 1) rfl
            have k2 := HW3.out.cell (i := 2) rfl
            have k3 := HW3.out.cell (i := 3) rfl
            have k4 := HW3.out.cell (i := 4) rfl
            have HY := Lib.hid (((((HW3.out.set_ 0 (.int .i64 0)).set_ 1 (.int .i64 0)).set_ 2 (.int .i64 0)).set_ 3 (.int .i64 0)).set_ 4 (.slice none 0 0))
            have HP : RowKit.Hid (GivesRd w X K (.returned (.tuple #[.agg #[.int .i64 0, .int .i64 0, .int .i64 0, .int .i64 0, .slice none 0 0], .bool false])) (((((W3.setCell ⟨b2, 0, none⟩ (.int .i64 0)).setCell ⟨b2, 1, none⟩ (.int .i64 0)).setCell ⟨b2, 2, none⟩ (.int .i64 0)).setCell ⟨b2, 3, none⟩ (.int .i64 0)).setCell ⟨b2, 4, none⟩ (.slice none 0 0))) := Lib.hid (by
              rw [HX2.out.1, HX2.out.2]
              exact ⟨none, 0, 0, rfl, rfl, World.ownsRow_nil _ _ _ _, (((((HB3.out.setCell (p := ⟨b2, 0, none⟩) Lb2.out (.int .i64 0)).setCell (p := ⟨b2, 1, none⟩) Lb2.out (.int .i64 0)).setCell (p := ⟨b2, 2, none⟩) Lb2.out (.int .i64 0)).setCell (p := ⟨b2, 3, none⟩) Lb2.out (.int .i64 0)).setCell (p := ⟨b2, 4, none⟩) Lb2.out (.slice none 0 0))⟩)
            clear HW3 HB3 HO3 HXK HX2
            go_wp2
            exact ret_whole2 rfl b2 rfl rfl HY.out Try.underlying30 rfl (by kernel_rfl) rfl HP.out
          | true =>
            have hp2 : p2 = (dg b : Int) := by have := Hbv.out; rw [hvb] at this; simpa using this
            have HV3 : RowKit.Hid (∀ c ∈ l.take (2 * (k + 1)), vD c = true) := Lib.hid (fun c hc => by
              rw [Hk.out.2.2, Htk.out] at hc
              rcases List.mem_append.1 hc with hc | hc
              · exact HV.out c hc
              · simp only [List.mem_cons, List.not_mem_nil, or_false] at hc
                rcases hc with rfl | rfl
                · exact hva
                · exact hvb)
            have hor := or_16 (dg a) (dg b) da db
            have hN := HN.out
            obtain ⟨d1, gd1⟩ : ∃ z, dg a = z := ⟨_, rfl⟩
            obtain ⟨d2, gd2⟩ : ∃ z, dg b = z := ⟨_, rfl⟩
            rw [gd1] at hor hN hp1 da
            rw [gd2] at hor hN hp2 db
            obtain ⟨s1, gs1⟩ : ∃ z, 16 * d1 = z := ⟨_, rfl⟩
            obtain ⟨v, gv⟩ : ∃ z, s1 + d2 = z := ⟨_, rfl⟩
            rw [gs1, gv] at hor hN
            have q0 : ¬ (d1 : Int) < 0 := by omega
            have q1 : ¬ (d2 : Int) < 0 := by omega
            have q2 : IntKind.i64.wrap ((d1 : Int) * 16) = (s1 : Int) := by rw [show (d1 : Int) * 16 = (s1 : Int) by omega]; exact IntWalk.i64_in _ (by omega)
            have q3 : IntKind.u8.wrap (v : Int) = (v : Int) := by rw [IntKind.wrap_u8]; omega
            rw [gi] at hN
            have HN2 := Lib.hid hN
            subst hp1 hp2
            obtain ⟨A8, c8, w8, hrun8, ho8, -⟩ := app8 23 (HO3.out.up (below1 W3 (.cells #[.int .u8 (v : Int)] 5))) (one8 W3 v) (by have := Hm.out.2; omega)
            have HO8 := Lib.hid ho8
            clear ho8 hN gd1 gd2 gs1 gv hva hvb HO3 HW3 HB3 HV da db hlt hlt1 gi
            go_upto_region 7 with (first
              | (at_builtin
                 refine wl_run (some 54) rfl (by rfl) (exec_append (by rfl) (by rfl) (by rfl) hrun8) ?_
                 clear hrun8))
            clear q0 q1 q2 q3 hor
            obtain ⟨m1, gm1⟩ : ∃ z, m + 1 = z := ⟨_, rfl⟩
            have Hm1 : RowKit.Hid (m1 = k + 1) := Lib.hid (gm1.symm.trans Hm.out.1)
            have hO9 := HO8.out
            rw [gm1, ← HN2.out] at hO9
            rw [gm1]
            have HO9 := Lib.hid hO9
            clear hO9 gm1 HO8 HN2
            go_wp2
            go_roundw
            case rel => exact ⟨k + 1, m1, A8, c8, Hk.out.1, Hm1.out, rfl, by rw [← Hk.out.2.1]; go_num, HV3, HO9⟩
            case measure => have := Hk.out; simp [intOf]; omega
      · obtain rfl : n = i := by omega
        have hfull : l.take n = l := List.take_of_length_le (by rw [Hl.out]; exact Nat.le_refl _)
        have ho := HO.out
        have hvv := HV.out
        rw [hfull] at ho hvv
        have hok := okD_yes (l := l) (by rw [Hl.out]; omega) hvv
        have hyes := ln_yes hok
        have hml : (pD l).length = m := by rw [pD_len, Hl.out]; omega
        have HT := Lib.hid (take23_any A1 m c1 (pD l) wo hml (own_rds ho.own) (by omega) (pD_lt l))
        have HW3 := Lib.hid (HW.out.bl ho.below)
        have HB3 := Lib.hid (bel_bl HB.out ho.below)
        have HVX : RowKit.Hid (X = tkS (pD l) ∧ K = okS (pD l)) := Lib.hid ⟨HXK.out.1.symm.trans hyes.1, HXK.out.2.symm.trans hyes.2.2⟩
        have HEr : RowKit.Hid (tkSE (pD l) = if okS (pD l) = true then 0 else 240) := Lib.hid rfl
        obtain ⟨⟨⟨x1, x2, x3, x4⟩, V⟩, gx⟩ : ∃ z, tkS (pD l) = z := ⟨_, rfl⟩
        obtain ⟨y, gy⟩ : ∃ z, tkSE (pD l) = z := ⟨_, rfl⟩
        obtain ⟨ok, gok⟩ : ∃ z, okS (pD l) = z := ⟨_, rfl⟩
        rw [gx, gy] at HT
        rw [gx, gok] at HVX
        rw [gy, gok] at HEr
        have hnl : ¬ (n : Int) < (t.size : Int) := by omega
        clear hfull ho hvv hok hyes hml gx gy gok hk hm hts hpar HO HV HXK gi
        go_wp2_with fail
        refine HT.out.mono ?_
        intro e w4 hg
        obtain ⟨A4, n4, c4, rfl, hn4, ho4, hb4⟩ := gives_s hg
        have hlt2 := HW3.out.lt
        have hne : some b2 ≠ (Value.slice A4 n4 c4).ownBlock := fun e => by have := (ho4.lt b2 e.symm).1; omega
        have hW4 := (HW3.out.bl hb4).al (.cells #[.int .i64 x1, .int .i64 x2, .int .i64 x3, .int .i64 x4, .slice A4 n4 c4] 30)
        have hB4 := bel_al (bel_bl HB3.out hb4) (.cells #[.int .i64 x1, .int .i64 x2, .int .i64 x3, .int .i64 x4, .slice A4 n4 c4] 30)
        have hO4 := own_up ho4 (below1 w4 (.cells #[.int .i64 x1, .int .i64 x2, .int .i64 x3, .int .i64 x4, .slice A4 n4 c4] 30))
        have hZ4 : Whole (w4.alloc (.cells #[.int .i64 x1, .int .i64 x2, .int .i64 x3, .int .i64 x4, .slice A4 n4 c4] 30)) w4.heap.size 30 [.int .i64 x1, .int .i64 x2, .int .i64 x3, .int .i64 x4, .slice A4 n4 c4] := Whole.new_ _ _ [_, _, _, _, _]
        have Hn4 := Lib.hid hn4
        have Hlo := Lib.hid HB3.out.size
        clear hg hn4 ho4 hb4 hlt2 HT HW3 HB3
        go_upto_region 13 with fail
        obtain ⟨W6, gW6⟩ : ∃ z, w4.alloc (.cells #[.int .i64 x1, .int .i64 x2, .int .i64 x3, .int .i64 x4, .slice A4 n4 c4] 30) = z := ⟨_, rfl⟩
        obtain ⟨b9, gb9⟩ : ∃ z, w4.heap.size = z := ⟨_, rfl⟩
        rw [gW6] at hW4 hB4 hO4 hZ4 ⊢
        rw [gb9] at hZ4 ⊢
        have HW4 := Lib.hid hW4
        have z0 := hZ4.cell (i := 0) rfl
        have z1 := hZ4.cell (i := 1) rfl
        have z2 := hZ4.cell (i := 2) rfl
        have z3 := hZ4.cell (i := 3) rfl
        have z4 := hZ4.cell (i := 4) rfl
        have HY := Lib.hid (((((HW4.out.set_ 0 (.int .i64 x1)).set_ 1 (.int .i64 x2)).set_ 2 (.int .i64 x3)).set_ 3 (.int .i64 x4)).set_ 4 (.slice A4 n4 c4))
        have HP : RowKit.Hid (GivesRd w X K (.returned (.tuple #[.agg #[.int .i64 x1, .int .i64 x2, .int .i64 x3, .int .i64 x4, .slice A4 n4 c4], .bool ok])) (((((W6.setCell ⟨b2, 0, none⟩ (.int .i64 x1)).setCell ⟨b2, 1, none⟩ (.int .i64 x2)).setCell ⟨b2, 2, none⟩ (.int .i64 x3)).setCell ⟨b2, 3, none⟩ (.int .i64 x4)).setCell ⟨b2, 4, none⟩ (.slice A4 n4 c4))) := Lib.hid (by
          rw [HVX.out.1, HVX.out.2]
          exact ⟨A4, n4, c4, rfl, Hn4.out, own_lo8 (own_cell_far (own_cell_far (own_cell_far (own_cell_far (own_cell_far hO4 (i := 0) hne (.int .i64 x1)) (i := 1) hne (.int .i64 x2)) (i := 2) hne (.int .i64 x3)) (i := 3) hne (.int .i64 x4)) (i := 4) hne (.slice A4 n4 c4)) Hlo.out, ((((((Lib.hid hB4).out.setCell (p := ⟨b2, 0, none⟩) Lb2.out (.int .i64 x1)).setCell (p := ⟨b2, 1, none⟩) Lb2.out (.int .i64 x2)).setCell (p := ⟨b2, 2, none⟩) Lb2.out (.int .i64 x3)).setCell (p := ⟨b2, 3, none⟩) Lb2.out (.int .i64 x4)).setCell (p := ⟨b2, 4, none⟩) Lb2.out (.slice A4 n4 c4))⟩)
        have f0 := HW4.out.free 0
        have f1 := HW4.out.free 1
        have f2 := HW4.out.free 2
        have f3 := HW4.out.free 3
        have f4 := HW4.out.free 4
        have k0 := HW4.out.cell (i := 0) rfl
        have k1 := HW4.out.cell (i := 1) rfl
        have k2 := HW4.out.cell (i := 2) rfl
        have k3 := HW4.out.cell (i := 3) rfl
        have k4 := HW4.out.cell (i := 4) rfl
        clear gW6 gb9 hW4 hB4 hO4 hZ4 hne HW4
        cases ok with
        | true =>
          obtain rfl : y = 0 := by have := HEr.out; simpa using this
          go_wp2
          exact ret_whole2 rfl b2 rfl rfl HY.out Try.underlying30 rfl (by kernel_rfl) rfl HP.out
        | false =>
          obtain rfl : y = 240 := by have := HEr.out; simpa using this
          go_wp2
          exact ret_whole2 rfl b2 rfl rfl HY.out Try.underlying30 rfl (by kernel_rfl) rfl HP.out
  · have hXK := ln_no (okD_odd (l := l) (by rw [Hl.out]; exact hev))
    have HX2 : RowKit.Hid (X = zS ∧ K = false) := Lib.hid ⟨HXK.out.1.symm.trans hXK.1, HXK.out.2.symm.trans hXK.2.2⟩
    have hts := Ht.out
    have hz : ((t.size : Int).tmod 2 != 0) = true := by
      rw [hts, Int.tmod_eq_emod_of_nonneg (by omega), show (n : Int) % 2 = 1 by omega]; rfl
    have hz2 : ((t.size : Int) % 2 != 0) = true := by
      rw [hts, show (n : Int) % 2 = 1 by omega]; rfl
    clear hXK hev hts
    have f0 := HW.out.free 0
    have f1 := HW.out.free 1
    have f2 := HW.out.free 2
    have f3 := HW.out.free 3
    have f4 := HW.out.free 4
    have k0 := HW.out.cell (i := 0) rfl
    have k1 := HW.out.cell (i := 1) rfl
    have k2 := HW.out.cell (i := 2) rfl
    have k3 := HW.out.cell (i := 3) rfl
    have k4 := HW.out.cell (i := 4) rfl
    have HY := Lib.hid (((((HW.out.set_ 0 (.int .i64 0)).set_ 1 (.int .i64 0)).set_ 2 (.int .i64 0)).set_ 3 (.int .i64 0)).set_ 4 (.slice none 0 0))
    have HP : RowKit.Hid (GivesRd w X K (.returned (.tuple #[.agg #[.int .i64 0, .int .i64 0, .int .i64 0, .int .i64 0, .slice none 0 0], .bool false])) (((((w1.setCell ⟨b2, 0, none⟩ (.int .i64 0)).setCell ⟨b2, 1, none⟩ (.int .i64 0)).setCell ⟨b2, 2, none⟩ (.int .i64 0)).setCell ⟨b2, 3, none⟩ (.int .i64 0)).setCell ⟨b2, 4, none⟩ (.slice none 0 0))) := Lib.hid (by
      rw [HX2.out.1, HX2.out.2]
      exact ⟨none, 0, 0, rfl, rfl, World.ownsRow_nil _ _ _ _, (((((HB.out.setCell (p := ⟨b2, 0, none⟩) Lb2.out (.int .i64 0)).setCell (p := ⟨b2, 1, none⟩) Lb2.out (.int .i64 0)).setCell (p := ⟨b2, 2, none⟩) Lb2.out (.int .i64 0)).setCell (p := ⟨b2, 3, none⟩) Lb2.out (.int .i64 0)).setCell (p := ⟨b2, 4, none⟩) Lb2.out (.slice none 0 0))⟩)
    clear HW HB HXK HX2
    go_wp2
    exact ret_whole2 rfl b2 rfl rfl HY.out Try.underlying30 rfl (by kernel_rfl) rfl HP.out
end Go.Proofs.Ytinfbaflkjghhaa
/- The lines of a text; the library's iterator over them. -/
namespace Go.Proofs.Ytinfbaflkjghhaa
open Go.RowKit
attribute [local go_sem] Oper.semAt_some
/-- The lines of a text, each with its newline. -/
def lns : List Nat → List Nat → List (List Nat)
  | cur, [] => if cur = [] then [] else [cur]
  | cur, c :: t => if c = 10 then (cur ++ [10]) :: lns [] t else lns (cur ++ [c]) t
theorem lns_cut (t : List Nat) : ∀ (a : List Nat) (cur : List Nat), ¬ 10 ∈ a → lns cur (a ++ 10 :: t) = (cur ++ a ++ [10]) :: lns [] t
  | [], cur, _ => by simp [lns]
  | c :: a, cur, h => by
    have hc : c ≠ 10 := fun e => h (by rw [e]; simp)
    rw [List.cons_append, lns, if_neg hc, lns_cut t a _ (fun e => h (by simp [e]))]
    simp
theorem lns_end : ∀ (a : List Nat) (cur : List Nat), ¬ 10 ∈ a → lns cur a = if cur ++ a = [] then [] else [cur ++ a]
  | [], cur, _ => by simp [lns]
  | c :: a, cur, h => by
    have hc : c ≠ 10 := fun e => h (by rw [e]; simp)
    rw [lns, if_neg hc, lns_end a _ (fun e => h (by simp [e]))]
    simp
theorem cut_ten (l : List Nat) : 10 ∈ l → ∃ a t, l = a ++ 10 :: t ∧ ¬ 10 ∈ a := by
  induction l with
  | nil => intro h; cases h
  | cons c l ih =>
    intro h
    by_cases hc : c = 10
    · exact ⟨[], l, by rw [hc]; rfl, by simp⟩
    · obtain ⟨a, t, e, hn⟩ := ih (by rcases List.mem_cons.1 h with e | e; exact absurd e.symm hc; exact e)
      exact ⟨c :: a, t, by rw [e]; rfl, fun e => by rcases List.mem_cons.1 e with e | e; exact hc e.symm; exact hn e⟩
theorem ten_ne {c : Nat} (hc : c < 256) (h : c ≠ 10) : (UInt8.ofNat c == 10) = false := by
  cases hq : UInt8.ofNat c == 10 with
  | false => rfl
  | true => exact absurd (ofNat_inj (a := c) (b := 10) hc (by decide) (by simpa using hq)) h
theorem idx_none : ∀ l : List Nat, (∀ b ∈ l, b < 256) → ¬ 10 ∈ l → Lib.indexByte (l.map UInt8.ofNat) 10 = -1
  | [], _, _ => rfl
  | c :: l, hb, h => by
    have hc : c ≠ 10 := fun e => h (by rw [e]; simp)
    rw [List.map_cons, Lib.indexByte, ten_ne (hb c (by simp)) hc, idx_none l (fun b h => hb b (by simp [h])) (fun e => h (by simp [e]))]
    rfl
theorem idx_some (t : List Nat) : ∀ a : List Nat, (∀ b ∈ a, b < 256) → ¬ 10 ∈ a → Lib.indexByte ((a ++ 10 :: t).map UInt8.ofNat) 10 = a.length
  | [], _, _ => rfl
  | c :: a, hb, h => by
    have hc : c ≠ 10 := fun e => h (by rw [e]; simp)
    have ih := idx_some t a (fun b h => hb b (by simp [h])) (fun e => h (by simp [e]))
    rw [List.cons_append, List.map_cons, Lib.indexByte, ten_ne (hb c (by simp)) hc, ih]
    have h1 : ((a.length : Int) == -1) = false := by
      cases hq : ((a.length : Int) == -1) with
      | false => rfl
      | true => simp at hq
    rw [h1, List.length_cons]
    simp
theorem txt_ext (l : List Nat) (i j : Nat) : (txt l).extract i j = txt ((l.take j).drop i) := ba_ext (by
  rw [ByteArray.data_extract, Array.toList_extract, txt_data, txt_data]
  rw [List.extract_eq_take_drop, List.map_drop, List.map_take, List.drop_take])
theorem txt_head (a t : List Nat) : (txt (a ++ 10 :: t)).extract 0 (a.length + 1) = txt (a ++ [10]) := by
  rw [txt_ext, List.drop_zero]
  congr 1
  rw [List.take_append, List.take_of_length_le (by omega), show a.length + 1 - a.length = 1 by omega]
  rfl
theorem txt_tail (a t : List Nat) : (txt (a ++ 10 :: t)).extract (a.length + 1) (txt (a ++ 10 :: t)).size = txt t := by
  rw [txt_ext, txt_size, List.take_length, List.drop_append, List.drop_of_length_le (by omega), show a.length + 1 - a.length = 1 by omega]
  rfl
theorem exec_strHigh {P : Program} {ev : Operand → Value} {o : Oper} {w : World} (t : TypeId) (x hi : Operand) (ho : o.op = .slice t x none (some hi) none) (hu : P.underlying t = some .string)
    {s : ByteArray} {k : Nat} (hx : ev x = .string s) (hk : ev hi = .int .i64 (k : Int)) (hkc : k ≤ s.size) : (execOp ev o).run P w = .ok (.value (.string (s.extract 0 k))) w := by
  have h1 : (Instr.slice t (.string s) none (some (.int .i64 (k : Int))) none).run P w = .ok (.string (s.extract 0 k)) w := by
    have := run_slice_string_h w t s hu .i64 (k : Int) (by omega) (by omega)
    simpa using this
  unfold execOp
  simp only [ho, Option.map_none, Option.map_some, hx, hk, Sem.run_bind, Sem.run_pure, Result.andThen_ok]
  rw [run_sliceAt_string w _ _ _ _ _ hu, h1]
  rfl
theorem exec_strLow {P : Program} {ev : Operand → Value} {o : Oper} {w : World} (t : TypeId) (x lo : Operand) (ho : o.op = .slice t x (some lo) none none) (hu : P.underlying t = some .string)
    {s : ByteArray} {k : Nat} (hx : ev x = .string s) (hk : ev lo = .int .i64 (k : Int)) (hkc : k ≤ s.size) : (execOp ev o).run P w = .ok (.value (.string (s.extract k s.size))) w := by
  have h1 : (Instr.slice t (.string s) (some (.int .i64 (k : Int))) none none).run P w = .ok (.string (s.extract k s.size)) w := by
    have := run_slice_string_l w t s hu .i64 (k : Int) (by omega) (by omega)
    simpa using this
  unfold execOp
  simp only [ho, Option.map_none, Option.map_some, hx, hk, Sem.run_bind, Sem.run_pure, Result.andThen_ok]
  rw [run_sliceAt_string w _ _ _ _ _ hu, h1]
  rfl
theorem AbS.bel {T : Nat → Prop} {J : World → Prop} (h : AbS T J) {w w' : World} (hj : J w) (hb : Below w.heap.size w w') : J w' :=
  h w w' none hj ⟨hb.os, hb.tape, hb.output, hb.size, fun k hk _ => hb.block k hk⟩ (fun _ e => by cases e)
theorem KpS.whole {K : Nat → Prop} {W W' : World} (h : KpS K W W') {g : Nat} {t : TypeId} {cs : List Value} (hw : Whole W g t cs) (hk : K g) : Whole W' g t cs :=
  hw.at_ (h.same g hw.lt hk)
/-- How much is left. -/
def lftS (b : Nat) (W : World) : Nat := match W.cell? ⟨b, 0, none⟩ with | some (.string s) => s.size | _ => 0
theorem lftS_eq {W : World} {b : Nat} {t : TypeId} {s : ByteArray} (h : Whole W b t [.string s]) : lftS b W = s.size := by
  unfold lftS; rw [h.cell (i := 0) rfl]
set_option maxRecDepth 100000 in
set_option maxHeartbeats 4000000 in
theorem lines_any (l : List Nat) (w : World) : Calls Try.prog 54 #[.string (txt l)] w fun e w' => e = .returned (.func (.func 70) #[] #[.pointer (some ⟨w.heap.size, 0, none⟩)]) ∧ w' = w.alloc (.cells #[.string (txt l)] 9) := by
  obtain ⟨t, gt⟩ : ∃ z, txt l = z := ⟨_, rfl⟩
  rw [gt]
  clear gt
  go_enter Try.func54, Try.ntmps54
  go_wp2
  go_ret
  exact ⟨rfl, rfl⟩
set_option maxRecDepth 100000 in
set_option maxHeartbeats 4000000 in
theorem lines_its (bs : Nat) (l : List Nat) (hb : ∀ b ∈ l, b < 256) (hl : l.length ≤ 1000000) (K T : Nat → Prop) (W : World) (hK : K bs) (hT : T bs) (hTs : ∀ i, T i → i < W.heap.size) (h1 : Whole W bs 9 [.string (txt l)]) :
    ItS Try.prog 70 #[.pointer (some ⟨bs, 0, none⟩)] (fun _ x => #[.string (txt x)]) K T (lns [] l) W := by
  intro q J Jx hJ hJx hY h0
  refine callsIn_wide.2 ?_
  show Calls Try.prog 70 #[.func (.yield q) #[] #[], .pointer (some ⟨bs, 0, none⟩)] W _
  obtain ⟨LL, gLL⟩ : ∃ z, lns [] l = z := ⟨_, rfl⟩
  rw [gLL] at hY ⊢
  have HF0 : RowKit.Hid (LL = [] ++ lns [] l ∧ (∀ b ∈ l, b < 256) ∧ l.length ≤ 1000000) := Lib.hid ⟨gLL.symm, hb, hl⟩
  have HW := Lib.hid h1
  have HJ := Lib.hid h0
  have HTs := Lib.hid hTs
  have HKb := Lib.hid hK
  have HTb := Lib.hid hT
  have HJc := Lib.hid hJ
  have HJxc := Lib.hid hJx
  have hlt := h1.lt
  have HY : RowKit.Hid (∀ pre x W1, J pre W1 → pre ++ [x] <+: LL → W.heap.size ≤ W1.heap.size → (∀ i, T i → i < W1.heap.size) → YieldAt Fence.wide 0 Try.prog q #[.string (txt x)] W1 fun e W' => (e = .returned (.bool true) ∧ J (pre ++ [x]) W' ∧ KpS K W1 W') ∨ (e = .returned (.bool false) ∧ Jx (pre ++ [x]) W' ∧ KpS K W1 W')) := Lib.hid hY
  clear gLL hb hl h1 h0 hK hT hTs hJ hJx hY
  have HSz : RowKit.Hid (W.heap.size ≤ W.heap.size) := Lib.hid (Nat.le_refl _)
  go_enter Try.func70, Try.ntmps70
  go_wp2
  go_loopw [] (fun wr => ∃ (pre : List (List Nat)) (rest : List Nat), RowKit.Hid (LL = pre ++ lns [] rest ∧ (∀ b ∈ rest, b < 256) ∧ rest.length ≤ 1000000) ∧ RowKit.Hid (J pre wr ∧ W.heap.size ≤ wr.heap.size) ∧ RowKit.Hid (Whole wr bs 9 [.string (txt rest)])) (fun wr => lftS bs wr)
  case atStart => exact ⟨[], l, HF0, Lib.hid ⟨HJ.out, Nat.le_refl _⟩, HW⟩
  case round =>
    clear HF0 HJ HW
    obtain ⟨pre, rest, HF, HJ0, HW⟩ := hrel
    have HJ : RowKit.Hid (J pre wr) := Lib.hid HJ0.out.1
    have HSw : RowKit.Hid (W.heap.size ≤ wr.heap.size) := Lib.hid HJ0.out.2
    obtain ⟨wo, gwo⟩ : ∃ z, wr = z := ⟨_, rfl⟩
    rw [gwo] at HJ HSw HW ⊢
    clear gwo HJ0
    obtain ⟨t, gt⟩ : ∃ z, txt rest = z := ⟨_, rfl⟩
    have hts : t.size = rest.length := by rw [← gt]; exact txt_size _
    rw [gt] at HW
    have c0 := HW.out.cell (i := 0) rfl
    have f0 := HW.out.free 0
    by_cases hr : rest = []
    · have hz : t.size = 0 := by rw [hts, hr]; rfl
      have HE : RowKit.Hid (LL = pre) := Lib.hid (by rw [HF.out.1, hr]; simp [lns])
      have hnl : ¬ (0 : Int) < (t.size : Int) := by omega
      clear hts hr
      go_wp2
      go_end0
      exact ⟨⟨_, rfl⟩, .inl (by rw [HE.out]; exact HJ.out)⟩
    · have hz : 0 < t.size := by rw [hts]; exact List.length_pos_iff.2 hr
      have hzI : (0 : Int) < (t.size : Int) := by omega
      have hidx : ∀ W, Calls Try.prog 56 #[.string t, .int .u8 10] W fun e w' => e = .returned (.int .i64 (Lib.indexByte (rest.map UInt8.ofNat) 10)) ∧ w' = W := fun W => by
        refine (Try.strings_IndexByte t 10 W).mono ?_
        rintro e w' ⟨rfl, rfl⟩
        rw [← gt, txt_data]
        exact ⟨rfl, rfl⟩
      by_cases h10 : 10 ∈ rest
      · obtain ⟨a, t', he, hna⟩ := cut_ten rest h10
        have hba : ∀ b ∈ a, b < 256 := fun b h => HF.out.2.1 b (by rw [he]; simp [h])
        rw [he, idx_some t' a hba hna] at hidx
        have HI := Lib.hid hidx
        obtain ⟨k, gk⟩ : ∃ z, a.length = z := ⟨_, rfl⟩
        obtain ⟨k1, gk1⟩ : ∃ z, k + 1 = z := ⟨_, rfl⟩
        have hk1 : k1 ≤ t.size := by rw [hts, he, List.length_append, List.length_cons]; omega
        have hkm : k ≤ 1000000 := by have := HF.out.2.2; rw [he, List.length_append] at this; omega
        have e1 : IntKind.i64.wrap ((k : Int) + 1) = (k1 : Int) := by rw [show (k : Int) + 1 = (k1 : Int) by omega]; exact IntWalk.i64_in _ (by omega)
        obtain ⟨X, gX⟩ : ∃ z, a ++ [10] = z := ⟨_, rfl⟩
        obtain ⟨rest', gr⟩ : ∃ z, t' = z := ⟨_, rfl⟩
        have hv1 : t.extract 0 k1 = txt X := by rw [← gt, he, ← gk1, ← gk, ← gX]; exact txt_head a t'
        have hv2 : t.extract k1 t.size = txt rest' := by rw [← gt, he, ← gk1, ← gk, ← gr]; exact txt_tail a t'
        have HFx : RowKit.Hid (LL = (pre ++ [X]) ++ lns [] rest' ∧ (∀ b ∈ rest', b < 256) ∧ rest'.length ≤ 1000000) := Lib.hid ⟨by rw [HF.out.1, he, lns_cut t' a [] hna, ← gX, ← gr]; simp, fun b h => HF.out.2.1 b (by rw [he, gr]; simp [h]), by have := HF.out.2.2; rw [he, List.length_append, List.length_cons, gr] at this; omega⟩
        have HMx : RowKit.Hid ((txt rest').size < t.size) := Lib.hid (by rw [txt_size, hts, he, List.length_append, List.length_cons, gr]; omega)
        have HPre : RowKit.Hid (pre ++ [X] <+: LL) := Lib.hid ⟨lns [] rest', HFx.out.1.symm⟩
        obtain ⟨u, gu⟩ : ∃ z, txt X = z := ⟨_, rfl⟩
        obtain ⟨v2, gv2⟩ : ∃ z, txt rest' = z := ⟨_, rfl⟩
        rw [gu] at hv1
        rw [gv2] at hv2
        have Gu := Lib.hid gu
        have Gv := Lib.hid gv2
        rw [gk] at HI
        have hk0 : (0 : Int) ≤ (k : Int) := by omega
        clear hidx he hna hba hr h10 gt hts gX gr gu gv2 gk gk1 hkm HF
        go_upto_region 4 with (go_at_call 56; refine (HI.out _).mono ?_; rintro e w' ⟨rfl, hww⟩; rw [hww]; clear hww w')
        have ld0 : ∀ w', Kept Nil_ wo.drew w' → w'.cell? ⟨bs, 0, none⟩ = some (.string t) := fun w' h => h.nil_cell (show wo.drew.cell? _ = _ from c0)
        clear HI c0 f0
        refine wp_region_tail (Nil_) [9] (by kernel_rfl) ?_
        apply wpT_next 0 (some 12) (by kernel_rfl)
        · rfl
        · rfl
        · kernel_rfl
        · kernel_rfl
        · kernel_rfl
        · exact fun _ _ _ _ h => h
        apply Exists.intro
        apply And.intro
        · apply yr_run; rfl; intro w' hw'; go_simp; (try with_reducible rfl)
        simp only [Act.put, stA_, st0_, st1_]
        apply wpT_next 1 (some 13) (by kernel_rfl)
        · rfl
        · rfl
        · kernel_rfl
        · kernel_rfl
        · kernel_rfl
        · exact fun _ _ _ _ h => h
        apply Exists.intro
        apply And.intro
        · apply yr_run; rfl; intro w' hw'; go_simp; (try with_reducible rfl)
        simp only [Act.put, stA_, st0_, st1_]
        apply wpT_next 2 (some 14) (by kernel_rfl)
        · rfl
        · rfl
        · kernel_rfl
        · kernel_rfl
        · kernel_rfl
        · exact fun _ _ _ _ h => h
        apply Exists.intro
        apply And.intro
        · apply yr_run; rfl; intro w' hw'; go_simp; (try with_reducible rfl)
        simp only [Act.put, stA_, st0_, st1_]
        apply wpT_next 3 (some 15) (by kernel_rfl)
        · rfl
        · rfl
        · kernel_rfl
        · kernel_rfl
        · kernel_rfl
        · exact fun _ _ _ _ h => h
        apply Exists.intro
        apply And.intro
        · apply yr_run; rfl; intro w' hw'; exact exec_strHigh 9 (.tmp 12) (.tmp 14) rfl Try.underlying9 rfl (by first | rfl | exact congrArg (Value.int .i64) rfl) hk1
        simp only [Act.put, stA_, st0_, st1_]
        apply wpT_next 4 (some 16) (by kernel_rfl)
        · rfl
        · rfl
        · kernel_rfl
        · kernel_rfl
        · kernel_rfl
        · exact fun _ _ _ _ h => h
        apply Exists.intro
        apply And.intro
        · apply yr_run; rfl; intro w' hw'; go_simp; (try with_reducible rfl)
        simp only [Act.put, stA_, st0_, st1_]
        apply wpT_next 5 (some 17) (by kernel_rfl)
        · rfl
        · rfl
        · kernel_rfl
        · kernel_rfl
        · kernel_rfl
        · exact fun _ _ _ _ h => h
        apply Exists.intro
        apply And.intro
        · apply yr_run; rfl; intro w' hw'; go_simp; (try with_reducible rfl)
        simp only [Act.put, stA_, st0_, st1_]
        apply wpT_next 6 (some 18) (by kernel_rfl)
        · rfl
        · rfl
        · kernel_rfl
        · kernel_rfl
        · kernel_rfl
        · exact fun _ _ _ _ h => h
        apply Exists.intro
        apply And.intro
        · apply yr_run; rfl; intro w' hw'; go_simp; (try with_reducible rfl)
        simp only [Act.put, stA_, st0_, st1_]
        apply wpT_next 7 (some 19) (by kernel_rfl)
        · rfl
        · rfl
        · kernel_rfl
        · kernel_rfl
        · kernel_rfl
        · exact fun _ _ _ _ h => h
        apply Exists.intro
        apply And.intro
        · apply yr_run; rfl; intro w' hw'; exact exec_strLow 9 (.tmp 16) (.tmp 18) rfl Try.underlying9 rfl (by first | rfl | exact congrArg (Value.int .i64) rfl) hk1
        simp only [Act.put, stA_, st0_, st1_]
        apply wpT_next 8 (some 3) (by kernel_rfl)
        · rfl
        · rfl
        · kernel_rfl
        · kernel_rfl
        · kernel_rfl
        · exact fun _ _ _ _ h => h
        apply Exists.intro
        apply And.intro
        · apply yr_run; rfl; intro w' hw'; go_simp; (try with_reducible rfl)
        simp only [Act.put, stA_, st0_, st1_]
        apply wpT_last 9
        · rfl
        · rfl
        · kernel_rfl
        · rfl
        · decide
        intro w' hw'
        have hY := HW.out.dr.bl hw'
        have m1 := hY.cell (i := 0) rfl
        have e1 := hY.free 0
        refine ⟨w'.setCell ⟨bs, 0, none⟩ (.string v2), ?_, ?_⟩
        · go_simp; first | done | exact rfl
        have HW2 := Lib.hid (hY.set_ 0 (.string v2))
        have HJ2 := Lib.hid ((HJc.out pre).sc ((HJc.out pre).bel HJ.out (bel_bl (bel_dr (Below.refl _ wo)) hw')) bs (.string v2) HTb.out)
        obtain ⟨w2, gw2⟩ : ∃ z, w'.setCell ⟨bs, 0, none⟩ (.string v2) = z := ⟨_, rfl⟩
        rw [gw2] at HW2 HJ2 ⊢
        have HS2 : RowKit.Hid (W.heap.size ≤ w2.heap.size) := Lib.hid (by rw [← gw2]; have h1 := HSw.out; have h2 := hw'.size; simp at h2 ⊢; omega)
        clear gw2 hw' hY m1 e1
        try simp only [Act.put, stA_, st0_, st1_]
        refine wpT_done (by kernel_rfl) ?_ _
        intro Wx hwx
        have HJx : RowKit.Hid (J pre Wx) := Lib.hid ((HJc.out pre).bel HJ2.out hwx)
        have HWx : RowKit.Hid (Whole Wx bs 9 [.string (txt rest')] ∧ W.heap.size ≤ Wx.heap.size) := Lib.hid ⟨by rw [Gv.out]; exact HW2.out.bl hwx, Nat.le_trans HS2.out hwx.size⟩
        clear hwx
        go_upto_region 6 with fail
        obtain ⟨fn, tmps, assign, body, hy, hR⟩ := HY.out pre X Wx HJx.out HPre.out HWx.out.2 (fun i hi => Nat.lt_of_lt_of_le (HTs.out i hi) HWx.out.2)
        have HR := Lib.hid hR
        clear hR
        rw [Gu.out] at hy
        refine (wpIn_wide (n := 0)).1 ?_
        gi_wp2
        refine ⟨rfl, HR.out.mono ?_⟩
        clear hy HR
        rintro e W3 (⟨rfl, hJ3, hk3⟩ | ⟨rfl, hJx3, -⟩)
        · have HJ3 := Lib.hid (And.intro hJ3 (Nat.le_trans HWx.out.2 hk3.size))
          have HW3 := Lib.hid (hk3.whole HWx.out.1 HKb.out)
          clear hJ3 hk3
          gi_wp2
          go_wp2
          go_roundw
          case rel => exact ⟨pre ++ [X], rest', HFx, HJ3, HW3⟩
          case measure => rw [lftS_eq HW3.out, lftS_eq HW.out]; exact HMx.out
        · have HJ3 := Lib.hid hJx3
          clear hJx3
          gi_wp2
          go_wp2
          refine bodyPost_ret (results_none rfl _ _ _) rfl ?_
          exact ⟨⟨_, rfl⟩, .inr ⟨pre ++ [X], HPre.out, HJ3.out⟩⟩
      · have hn := idx_none rest HF.out.2.1 h10
        rw [hn] at hidx
        have HI := Lib.hid hidx
        have hL : lns [] rest = [rest] := by rw [lns_end rest [] h10, List.nil_append, if_neg hr]
        obtain ⟨X, gX⟩ : ∃ z, rest = z := ⟨_, rfl⟩
        obtain ⟨rest', gr⟩ : ∃ z, ([] : List Nat) = z := ⟨_, rfl⟩
        have HFx : RowKit.Hid (LL = (pre ++ [X]) ++ lns [] rest' ∧ (∀ b ∈ rest', b < 256) ∧ rest'.length ≤ 1000000) := Lib.hid ⟨by rw [HF.out.1, hL, ← gX, ← gr]; simp [lns], fun b h => (by rw [← gr] at h; cases h), by rw [← gr]; simp⟩
        have HPre : RowKit.Hid (pre ++ [X] <+: LL) := Lib.hid ⟨lns [] rest', HFx.out.1.symm⟩
        have Gu : RowKit.Hid (txt X = t) := Lib.hid (by rw [← gX]; exact gt)
        have Gv : RowKit.Hid (txt rest' = { data := #[] }) := Lib.hid (by rw [← gr]; rfl)
        have HMx : RowKit.Hid ((txt rest').size < t.size) := Lib.hid (by rw [Gv.out]; exact hz)
        clear hidx hn hL hr h10 gt hts gX gr HF
        go_upto_region 6 with (go_at_call 56; refine (HI.out _).mono ?_; rintro e w' ⟨rfl, hww⟩; rw [hww]; clear hww w')
        obtain ⟨Wx, gWx⟩ : ∃ z, wo.setCell ⟨bs, 0, none⟩ (.string { data := #[] }) = z := ⟨_, rfl⟩
        have HJx : RowKit.Hid (J pre Wx) := Lib.hid (by rw [← gWx]; exact (HJc.out pre).sc HJ.out bs _ HTb.out)
        have HWx : RowKit.Hid (Whole Wx bs 9 [.string (txt rest')] ∧ W.heap.size ≤ Wx.heap.size) := Lib.hid ⟨by rw [Gv.out, ← gWx]; exact HW.out.set_ 0 _, by rw [← gWx]; have := HSw.out; simpa using this⟩
        rw [gWx]
        clear gWx HI c0 f0
        obtain ⟨fn, tmps, assign, body, hy, hR⟩ := HY.out pre X Wx HJx.out HPre.out HWx.out.2 (fun i hi => Nat.lt_of_lt_of_le (HTs.out i hi) HWx.out.2)
        have HR := Lib.hid hR
        clear hR
        rw [Gu.out] at hy
        refine (wpIn_wide (n := 0)).1 ?_
        gi_wp2
        refine ⟨rfl, HR.out.mono ?_⟩
        clear hy HR
        rintro e W3 (⟨rfl, hJ3, hk3⟩ | ⟨rfl, hJx3, -⟩)
        · have HJ3 := Lib.hid (And.intro hJ3 (Nat.le_trans HWx.out.2 hk3.size))
          have HW3 := Lib.hid (hk3.whole HWx.out.1 HKb.out)
          clear hJ3 hk3
          gi_wp2
          go_wp2
          go_roundw
          case rel => exact ⟨pre ++ [X], rest', HFx, HJ3, HW3⟩
          case measure => rw [lftS_eq HW3.out, lftS_eq HW.out]; exact HMx.out
        · have HJ3 := Lib.hid hJx3
          clear hJx3
          gi_wp2
          go_wp2
          refine bodyPost_ret (results_none rfl _ _ _) rfl ?_
          exact ⟨⟨_, rfl⟩, .inr ⟨pre ++ [X], HPre.out, HJ3.out⟩⟩
end Go.Proofs.Ytinfbaflkjghhaa
/- The lines of a text with their numbers: an iterator over an iterator. -/
namespace Go.Proofs.Ytinfbaflkjghhaa
open Go.RowKit
attribute [local go_sem] Oper.semAt_some
theorem lns_len : ∀ (l cur : List Nat), (lns cur l).length ≤ l.length + cur.length
  | [], cur => by
    rw [lns]
    cases cur with
    | nil => simp
    | cons c t => simp
  | c :: t, cur => by
    rw [lns]
    split
    · have := lns_len t []; simp at this ⊢; omega
    · have := lns_len t (cur ++ [c]); simp at this ⊢; omega
theorem KpS.sub {K K' : Nat → Prop} {W W' : World} (h : KpS K W W') (hs : ∀ i, K' i → K i) : KpS K' W W' := ⟨h.size, fun i h1 h2 => h.same i h1 (hs i h2)⟩
set_option maxRecDepth 100000 in
set_option maxHeartbeats 4000000 in
theorem numb_any (l : List Nat) (w : World) : Calls Try.prog 33 #[.string (txt l)] w fun e w' => e = .returned (.func (.func 53) #[] #[.pointer (some ⟨w.heap.size, 0, none⟩)]) ∧ w' = w.alloc (.cells #[.string (txt l)] 9) := by
  obtain ⟨t, gt⟩ : ∃ z, txt l = z := ⟨_, rfl⟩
  rw [gt]
  clear gt
  go_enter Try.func33, Try.ntmps33
  go_wp2
  go_ret
  exact ⟨rfl, rfl⟩
set_option maxRecDepth 100000 in
set_option maxHeartbeats 4000000 in
theorem numb_its (bn : Nat) (l : List Nat) (hb : ∀ b ∈ l, b < 256) (hl : l.length ≤ 1000000) (K T : Nat → Prop) (W : World) (hK : ∀ i, W.heap.size ≤ i → i ≤ W.heap.size + 4 → K i) (hT : ∀ i, W.heap.size ≤ i → i ≤ W.heap.size + 4 → T i) (hTs : ∀ i, T i → i < W.heap.size + 5) (h1 : Whole W bn 9 [.string (txt l)]) :
    ItS Try.prog 53 #[.pointer (some ⟨bn, 0, none⟩)] (fun (pre : List (List Nat)) x => #[.int .i64 ((pre.length + 1 : Nat) : Int), .string (txt x)]) K T (lns [] l) W := by
  intro q J Jx hJ hJx hY h0
  have HL := Lib.hid (lines_any l)
  have HIt := Lib.hid (fun (bs : Nat) (K T : Nat → Prop) (W : World) => lines_its bs l hb hl K T W)
  have hll : (lns [] l).length ≤ 1000000 := Nat.le_trans (lns_len l []) (by simpa using hl)
  obtain ⟨LL, gLL⟩ : ∃ z, lns [] l = z := ⟨_, rfl⟩
  obtain ⟨t, gt⟩ : ∃ z, txt l = z := ⟨_, rfl⟩
  rw [gLL] at hY HIt hll ⊢
  rw [gt] at h1 HL HIt
  have HJc := Lib.hid hJ
  have HJxc := Lib.hid hJx
  have HKc := Lib.hid hK
  have HTc := Lib.hid hT
  have HTs := Lib.hid hTs
  have HLl := Lib.hid hll
  have HY : RowKit.Hid (∀ (pre : List (List Nat)) (x : List Nat) W1, J pre W1 → pre ++ [x] <+: LL → W.heap.size ≤ W1.heap.size → (∀ i, T i → i < W1.heap.size) → YieldAt Fence.wide 0 Try.prog q #[.int .i64 ((pre.length + 1 : Nat) : Int), .string (txt x)] W1 fun e W' => (e = .returned (.bool true) ∧ J (pre ++ [x]) W' ∧ KpS K W1 W') ∨ (e = .returned (.bool false) ∧ Jx (pre ++ [x]) W' ∧ KpS K W1 W')) := Lib.hid hY
  have HJ0 := Lib.hid h0
  have HB := Lib.hid h1
  have c0 := h1.cell (i := 0) rfl
  have hlt := h1.lt
  clear hJ hJx hY h0 hK hT hTs h1 gLL gt hb hl hll
  show CallsIn Fence.wide 0 Try.prog 53 #[.func (.yield q) #[] #[], .pointer (some ⟨bn, 0, none⟩)] W _
  refine callsIn_of_wp_marks Try.func53 rfl trivial ?_
  simp only [Try.ntmps53, List.size_toArray, List.length_cons, List.length_nil, Nat.reduceAdd, Nat.reduceSub, Array.replicate_succ, Array.replicate_zero, List.push_toArray, List.append_toArray, List.nil_append, List.cons_append]
  refine wpIn_wide.2 ?_
  have hWs : Whole (((W.alloc (.cells #[.func (.yield q) #[] #[]] 92)).alloc (.cells #[.int .i64 0] 3)).alloc (.cells #[.string t] 9)) (W.heap.size + 1 + 1) 9 [.string t] := Whole.new2 (by simp)
  have hWy : Whole (((W.alloc (.cells #[.func (.yield q) #[] #[]] 92)).alloc (.cells #[.int .i64 0] 3)).alloc (.cells #[.string t] 9)) W.heap.size 92 [.func (.yield q) #[] #[]] := ((Whole.new_ W 92 [_]).al _).al _
  have hWn : Whole (((W.alloc (.cells #[.func (.yield q) #[] #[]] 92)).alloc (.cells #[.int .i64 0] 3)).alloc (.cells #[.string t] 9)) (W.heap.size + 1) 3 [.int .i64 0] := (Whole.new2 (w := W.alloc (.cells #[.func (.yield q) #[] #[]] 92)) (cs := [.int .i64 0]) (t := 3) (by simp)).al _
  have hJ1 : J [] (((W.alloc (.cells #[.func (.yield q) #[] #[]] 92)).alloc (.cells #[.int .i64 0] 3)).alloc (.cells #[.string t] 9)) := ((HJc.out []).al ((HJc.out []).al ((HJc.out []).al HJ0.out _) _) _)
  have hsz : (((W.alloc (.cells #[.func (.yield q) #[] #[]] 92)).alloc (.cells #[.int .i64 0] 3)).alloc (.cells #[.string t] 9)).heap.size = W.heap.size + 3 := by simp
  go_wp2_with (go_at_call 54; refine (HL.out _).mono ?_; rintro e w' ⟨rfl, rfl⟩)
  obtain ⟨W0, gW0⟩ : ∃ z, ((W.alloc (.cells #[.func (.yield q) #[] #[]] 92)).alloc (.cells #[.int .i64 0] 3)).alloc (.cells #[.string t] 9) = z := ⟨_, rfl⟩
  rw [gW0] at hWs hWy hWn hJ1 hsz
  try simp only [World.size_setCell, World.size_alloc]
  rw [gW0]
  clear gW0 c0 HB
  obtain ⟨c, gc⟩ : ∃ z, W.heap.size = z := ⟨_, rfl⟩
  rw [gc] at hWs hWy hWn hsz HKc HTc HTs HY hlt ⊢
  rw [show c + 1 + 1 = c + 2 from rfl] at hWs ⊢
  clear gc HL HJ0
  have HWs := Lib.hid hWs
  have HWy := Lib.hid hWy
  have HWn := Lib.hid hWn
  have HJ1 := Lib.hid hJ1
  clear hWs hWy hWn hJ1
  refine (wpIn_wide (n := 0)).1 ?_
  refine wpIn_roundS (gf := 70) (lb := #[.pointer (some ⟨c + 2, 0, none⟩)]) rfl (enters_of Try.func70 (by kernel_rfl) rfl) (encs := fun _ x => #[.string (txt x)]) (fun _ _ => rfl) (fun i => i = c + 2) (fun i => i = c + 2) (by rw [hsz]; omega) (by rw [hsz]; omega)
    (fun r => HIt.out (c + 2) _ _ _ rfl rfl (fun i hi => by simp only [World.size_alloc]; omega) ((HWs.out.al _).al _))
    (fun p V => J p V ∧ Whole V c 92 [.func (.yield q) #[] #[]] ∧ Whole V (c + 1) 3 [.int .i64 ((p.length : Nat) : Int)])
    (fun p x a' V => a' = { tmps := #[.func (.yield q) #[] #[], .pointer (some ⟨bn, 0, none⟩), .pointer (some ⟨c, 0, none⟩), .pointer (some ⟨c + 1, 0, none⟩), .string (txt x), .string t, .func (.func 70) #[] #[.pointer (some ⟨c + 2, 0, none⟩)], .string (txt x), undef, undef, undef, undef, undef, undef, undef], defers := [] } ∧ J p V ∧ Whole V c 92 [.func (.yield q) #[] #[]] ∧ Whole V (c + 1) 3 [.int .i64 ((p.length : Nat) : Int)])
    (fun k p V => k = .ret ∧ Jx p V)
    (fun p A B r h hg hr => ⟨HJc.out p A B r h.1 hg (fun z e => by have := hr z e; rw [hsz] at this; exact HTc.out z (by omega) (by omega)), h.2.1.at_ (hg.block _ h.2.1.lt (fun e => by have := hr _ e.symm; rw [hsz] at this; omega)), h.2.2.at_ (hg.block _ h.2.2.lt (fun e => by have := hr _ e.symm; rw [hsz] at this; omega))⟩)
    (fun p x a' A B r h hg hr => ⟨h.1, HJc.out p A B r h.2.1 hg (fun z e => by have := hr z e; rw [hsz] at this; exact HTc.out z (by omega) (by omega)), h.2.2.1.at_ (hg.block _ h.2.2.1.lt (fun e => by have := hr _ e.symm; rw [hsz] at this; omega)), h.2.2.2.at_ (hg.block _ h.2.2.2.lt (fun e => by have := hr _ e.symm; rw [hsz] at this; omega))⟩)
    (fun k p A B r h hg hr => ⟨h.1, HJxc.out p A B r h.2 hg (fun z e => by have := hr z e; rw [hsz] at this; exact HTc.out z (by omega) (by omega))⟩)
    ⟨HJ1.out, HWy.out, HWn.out⟩ ?assign ?body ?done ?stop
  case assign =>
    intro l' pre x V R hi hpre hsz3 hT3 hKK
    gi_wp2
    exact hKK _ _ (KpS.refl _ _) ⟨rfl, hi⟩
  case body =>
    rintro l' pre x a' V ⟨rfl, hj, hy0, hn0⟩ hpre hsz3 hT3
    obtain ⟨k, gk⟩ : ∃ z, pre.length = z := ⟨_, rfl⟩
    obtain ⟨k1, gk1⟩ : ∃ z, k + 1 = z := ⟨_, rfl⟩
    have hkm : k ≤ 1000000 := by have h1 := hpre.length_le; have h2 := HLl.out; rw [List.length_append] at h1; omega
    have e1 : IntKind.i64.wrap ((k : Int) + 1) = (k1 : Int) := by rw [show (k : Int) + 1 = (k1 : Int) by omega]; exact IntWalk.i64_in _ (by omega)
    rw [gk] at hn0
    have y0 := hy0.cell (i := 0) rfl
    have n0 := hn0.cell (i := 0) rfl
    have nf := hn0.free 0
    have y1 := (hy0.far (p := ⟨c + 1, 0, none⟩) (show c ≠ c + 1 by omega) (.int .i64 (k1 : Int))).cell (i := 0) rfl
    have n1 := (hn0.set_ 0 (.int .i64 (k1 : Int))).cell (i := 0) rfl
    obtain ⟨fn, tmps, assign, body, hy, hR⟩ := HY.out pre x (V.setCell ⟨c + 1, 0, none⟩ (.int .i64 (k1 : Int))) ((HJc.out _).sc hj (c + 1) _ (HTc.out _ (by omega) (by omega))) hpre (by rw [World.size_setCell]; omega) (fun i hi => by rw [World.size_setCell]; have := HTs.out i hi; omega)
    rw [gk, gk1] at hy
    have HR := Lib.hid hR
    have HN1 := Lib.hid (hn0.set_ 0 (.int .i64 (k1 : Int)))
    have HY1 := Lib.hid (hy0.far (p := ⟨c + 1, 0, none⟩) (show c ≠ c + 1 by omega) (.int .i64 (k1 : Int)))
    have HK1 : RowKit.Hid (KpS (fun i => i = c + 2 ∨ i = W0.heap.size ∨ i = W0.heap.size + 1) V (V.setCell ⟨c + 1, 0, none⟩ (.int .i64 (k1 : Int)))) := Lib.hid (KpS.grown (grownBy_setCell' _ _ _) (fun r e => by cases e; rw [hsz]; omega))
    have Hl1 : RowKit.Hid ((pre ++ [x]).length = k1) := Lib.hid (by rw [List.length_append, gk]; exact gk1)
    obtain ⟨u, gu⟩ : ∃ z, txt x = z := ⟨_, rfl⟩
    rw [gu] at hy ⊢
    clear hR hj hy0 hn0 gk gk1 hkm gu
    gi_wp2
    refine ⟨rfl, RoundIn.inRound l' (HR.out.mono ?_)⟩
    have HSz := Lib.hid hsz
    clear hy HR y0 n0 nf y1 n1 e1 hsz
    rintro e W3 (⟨rfl, hJ3, hk3⟩ | ⟨rfl, hJ3, hk3⟩)
    · have HJ3 := Lib.hid hJ3
      have HY3 := Lib.hid (hk3.whole HY1.out (HKc.out _ (by omega) (by omega)))
      have HN3 := Lib.hid (hk3.whole HN1.out (HKc.out _ (by omega) (by omega)))
      have HK3 := Lib.hid (HK1.out.trans (hk3.sub (fun i hi => by have := HSz.out; exact HKc.out i (by omega) (by omega))))
      clear hJ3 hk3
      gi_wp2
      exact ⟨HK3.out, HJ3.out, HY3.out, by rw [Hl1.out]; exact HN3.out⟩
    · have HJ3 := Lib.hid hJ3
      have HK3 := Lib.hid (HK1.out.trans (hk3.sub (fun i hi => by have := HSz.out; exact HKc.out i (by omega) (by omega))))
      clear hJ3 hk3
      gi_wp2
      exact ⟨HK3.out, rfl, HJ3.out⟩
  case done =>
    rintro V ⟨hj, -, -⟩ hKd
    go_wp2
    refine ⟨by simp, .inl ⟨_, _, rfl, run_takeDeferred hKd, ?_⟩⟩
    exact ⟨_, results_none rfl _ _ _, ⟨_, rfl⟩, .inl ((HJc.out _).po hj _ _ (HTc.out _ (by omega) (by omega)))⟩
  case stop =>
    rintro k pre V hpre ⟨rfl, hj⟩ hKd
    gi_wp2
    refine ⟨by simp, .inl ⟨_, _, rfl, run_takeDeferred hKd, ?_⟩⟩
    exact ⟨_, results_none rfl _ _ _, ⟨_, rfl⟩, .inr ⟨pre, hpre, (HJxc.out _).po hj _ _ (HTc.out _ (by omega) (by omega))⟩⟩
end Go.Proofs.Ytinfbaflkjghhaa
/- script.Parse. -/
namespace Go.Proofs.Ytinfbaflkjghhaa
open Go.RowKit
attribute [local go_sem] Oper.semAt_some
/-- What a line with its newline reads as. -/
def lrV (x : List Nat) : SD := if x.getLast? = some 10 then lnV x.dropLast else zS
def lrO (x : List Nat) : Bool := if x.getLast? = some 10 then lnO x.dropLast else false
theorem lns_mem : ∀ (l cur : List Nat), (∀ b ∈ cur, b < 256 ∧ b ≠ 10) → (∀ b ∈ l, b < 256) → ∀ x ∈ lns cur l, (∀ b ∈ x, b < 256) ∧ x.length ≤ cur.length + l.length ∧ ((∃ a, x = a ++ [10]) ∨ ¬ 10 ∈ x)
  | [], cur, hc, _, x, hx => by
    rw [lns] at hx
    split at hx
    · cases hx
    · obtain rfl := List.mem_singleton.1 hx
      exact ⟨fun b h => (hc b h).1, by simp, .inr (fun h => (hc 10 h).2 rfl)⟩
  | c :: t, cur, hc, hb, x, hx => by
    rw [lns] at hx
    split at hx
    · rcases List.mem_cons.1 hx with rfl | hx
      · refine ⟨fun b h => ?_, by simp, .inl ⟨cur, rfl⟩⟩
        rcases List.mem_append.1 h with h | h
        · exact (hc b h).1
        · obtain rfl := List.mem_singleton.1 h
          decide
      · obtain ⟨h1, h2, h3⟩ := lns_mem t [] (fun b h => by cases h) (fun b h => hb b (by simp [h])) x hx
        exact ⟨h1, by simp at h2 ⊢; omega, h3⟩
    · rename_i hne
      obtain ⟨h1, h2, h3⟩ := lns_mem t (cur ++ [c]) (fun b h => by
        rcases List.mem_append.1 h with h | h
        · exact hc b h
        · obtain rfl := List.mem_singleton.1 h
          exact ⟨hb _ (by simp), hne⟩) (fun b h => hb b (by simp [h])) x hx
      exact ⟨h1, by simp at h2 ⊢; omega, h3⟩
theorem readx_any (x : List Nat) (w : World) (hb : ∀ b ∈ x, b < 256) (hn : x.length ≤ 100000) (hf : (∃ a, x = a ++ [10]) ∨ ¬ 10 ∈ x) :
    Calls Try.prog 34 #[.string (txt x)] w (GivesRd w (lrV x) (lrO x)) := by
  by_cases h10 : 10 ∈ x
  · obtain ⟨a, rfl⟩ := hf.resolve_right (fun h => h h10)
    have h := read_nl a w (by rw [List.length_append] at hn; omega) (fun b h => hb b (by simp [h]))
    unfold lrV lrO
    rw [List.getLast?_concat, if_pos rfl, if_pos rfl, List.dropLast_concat]
    exact h
  · have hl : ¬ x.getLast? = some 10 := fun e => h10 (List.mem_of_getLast? e)
    have h := read_no x w hn hb h10
    unfold lrV lrO
    rw [if_neg hl, if_neg hl]
    exact h
/-- What the lines read as, behind those read. -/
def prT : List (List Nat) → List SD → List SD × Nat × Int
  | [], acc => (acc, 0, 0)
  | x :: xs, acc => if lrO x = true then prT xs (acc ++ [lrV x]) else ([], acc.length + 1, 240)
theorem prT_app (R : List (List Nat)) : ∀ (p : List (List Nat)) (acc : List SD), (∀ x ∈ p, lrO x = true) → prT (p ++ R) acc = prT R (acc ++ p.map lrV)
  | [], acc, _ => by simp
  | x :: p, acc, h => by
    rw [List.cons_append, prT, if_pos (h x (by simp)), prT_app R p _ (fun y hy => h y (by simp [hy])), List.map_cons, List.append_assoc]
    rfl
def parS (l : List Nat) : List SD × Nat × Int := if l.length > 65536 ∨ l.count 10 > 2048 then ([], 0, 3) else prT (lns [] l) []
theorem cnt_ten : ∀ l : List Nat, (∀ b ∈ l, b < 256) → Lib.countByte (l.map UInt8.ofNat) 10 = l.count 10
  | [], _ => rfl
  | c :: l, hb => by
    have ih := cnt_ten l (fun b h => hb b (by simp [h]))
    unfold Lib.countByte at ih ⊢
    rw [List.map_cons, List.count_cons, List.count_cons, ih]
    by_cases hc : c = 10
    · rw [hc]; rfl
    · rw [ten_ne (hb c (by simp)) hc, show (c == 10) = false by simpa using hc]
def GivesL (w : World) (r : List SD × Nat × Int) (e : Ending) (w' : World) : Prop :=
  ∃ (A : Option Addr) (n c : Nat) (Ts : List StT), e = .returned (.tuple #[.slice A n c, .int .i64 (r.2.1 : Int), .int .i64 r.2.2]) ∧ Ts.map sdT = r.1 ∧ StW w.heap.size w' (.slice A n c) n Ts ∧ (∀ s ∈ Ts, s.2.2.1 = s.2.2.2.2.length) ∧ Below w.heap.size w w'
theorem res3_ {fn : Func} {tmps : Array Value} {w : World} {g0 g1 g2 : Nat} {v0 v1 v2 : Value} (h : fn.results = #[.cell 2 22, .cell 3 3, .cell 4 31]) (p0 : tmps.getD 2 undef = .pointer (some ⟨g0, 0, none⟩)) (p1 : tmps.getD 3 undef = .pointer (some ⟨g1, 0, none⟩)) (p2 : tmps.getD 4 undef = .pointer (some ⟨g2, 0, none⟩))
    (H0 : Whole w g0 22 [v0]) (H1 : Whole w g1 3 [v1]) (H2 : Whole w g2 31 [v2]) : (results fn tmps).run Try.prog w = .ok (.tuple #[v0, v1, v2]) w := by
  have c0 := H0.cell (i := 0) rfl
  have c1 := H1.cell (i := 0) rfl
  have c2 := H2.cell (i := 0) rfl
  rw [Array.getD_eq_getD_getElem?] at p0 p1 p2
  simp [results, h, p0, p1, p2, asAddr, go_sem, c0, c1, c2]
/-- What stands between two rounds. -/
structure PIn (w : World) (b0 b1 b2 b3 lo : Nat) (pre : List (List Nat)) (V : World) : Prop where
  r0 : Whole V b0 22 [.slice none 0 0]
  r1 : Whole V b1 3 [.int .i64 0]
  r2 : Whole V b2 31 [.int .i64 0]
  out : ∃ A c Ts, Whole V b3 22 [.slice A pre.length c] ∧ StW lo V (.slice A pre.length c) pre.length Ts ∧ Ts.map sdT = pre.map lrV ∧ ∀ s ∈ Ts, s.2.2.1 = s.2.2.2.2.length
  good : ∀ x ∈ pre, lrO x = true
  below : Below w.heap.size w V
theorem own_far {W W' : World} {lo k n : Nat} {t : TypeId} {v : Value} {xs : List Value} {r : Option Nat} (h : W.ownsRow lo t k v n xs) (hg : W.grownBy W' r) (hr : ∀ q, r = some q → q < lo) : W'.ownsRow lo t k v n xs :=
  h.kept hg (by
    cases hq : v.ownBlock with
    | none => exact .inl rfl
    | some q => exact .inr (fun e => by have h1 := (h.lt q hq).1; have h2 := hr q e.symm; omega))
end Go.Proofs.Ytinfbaflkjghhaa
