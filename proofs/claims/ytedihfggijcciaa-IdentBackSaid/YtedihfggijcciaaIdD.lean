/- Bytes that a slice reads as; what Put lays down. -/
import Derived.Test.YtedihfggijcciaaIdC
import Derived.Test.YtedihfggijcciaaMem
namespace Go.Proofs.Ytedihfggijcciaa
open Go.RowKit


/-- A call that answers a new slice of these bytes, and leaves all that was there as it was. -/
def GivesB (w : World) (bs : List Int) (e : Ending) (w' : World) : Prop :=
  ∃ v, e = .returned v ∧ w'.ownsRow w.heap.size 5 1 v bs.length (bytesV bs) ∧ Below w.heap.size w w'

def nameB (s x : Int) : List Int := [s, x / 65536, x / 256 % 256, x % 256]

theorem info_u8 : (Try.prog.info? 5).map (fun i => (i.zero, i.size, i.bytes)) = some (some (.int .u8 0), 1, 1) := by kernel_rfl

theorem put_any (A : Option Addr) (n c : Nat) (bs : List Int) (s x : Int) (w : World) (h : RdS w w.heap.size 1 A n c (bytesV bs)) (hn : n ≤ 1048576) (hs : 1 ≤ s ∧ s ≤ 8) (hx : 1 ≤ x ∧ x ≤ 1048576) :
    Calls Try.prog 22 #[.slice A n c, .agg #[.int .i64 s, .int .i64 x]] w (GivesB w (bs ++ nameB s x)) := by
  obtain ⟨i0, hi, hz0, hz1, hz2⟩ := info_parts info_u8
  have hmk : ∀ W : World, (Instr.makeSlice 34 (.int .i64 0) (.int .i64 ((n : Int) + 4))).run Try.prog W = .ok (.slice (some ⟨W.heap.size, 0, none⟩) 0 (n + 4)) (W.alloc (.cells (madeCells (Value.int .u8 0).cells ((n + 4) * 1)) 5)) := fun W => by
    have := run_make (P := Try.prog) W 34 5 i0 (.int .u8 0) Try.underlying34 hi hz0 .i64 .i64 0 ((n : Int) + 4) (by omega) (by omega) (by rw [hz2]; omega) (by omega)
    rw [hz1] at this
    exact this
  obtain ⟨hs1, hs2⟩ := hs
  obtain ⟨hx1, hx2⟩ := hx
  have hown0 : ∀ W : World, (W.alloc (.cells (madeCells #[Value.int .u8 0] (n + 4)) 5)).ownsRow W.heap.size 5 1 (.slice (some ⟨W.heap.size, 0, none⟩) 0 (n + 4)) 0 [] := fun W =>
    World.ownsRow_made (base := W.heap.size) W _ (n + 4) (Nat.le_refl _) (by unfold maxLen; omega) (by simp [madeCells])
  have hlen := h.len
  have hle := h.le
  have hl0 : (bytesV bs).length = n * 1 := h.len
  have hone : ∀ l : List Int, ∀ u ∈ bytesV l, u.oneCell' = true := fun l u hu => by
    obtain ⟨_, _, rfl⟩ := List.mem_map.1 hu
    rfl
  have ho := hown0 (w.alloc (.cells #[.int .i64 s, .int .i64 x] 23))
  have hr : RdS (((w.alloc (.cells #[.int .i64 s, .int .i64 x] 23)).alloc (.cells (madeCells #[Value.int .u8 0] (n + 4)) 5))) w.heap.size 1 A n c (bytesV bs) := h.below (below2 _ _ _)
  have Hlen := Lib.hid hlen
  have Hl0 := Lib.hid hl0
  clear hlen hl0
  go_enter Try.func22, Try.ntmps22
  go_wp2_with (first
    | (at_builtin
       refine wpList_append_fits_any _ rfl (.tmp 10) (.tmp 11) _ rfl (w.heap.size + 1) 5 i0 1 Try.underlying34 hi hz1 (w.heap.size + 1) 0 (n + 4) [] rfl (by simpa using ho) A n c (bytesV bs) rfl Hl0.out h.none_ hr.cell (hone _) (by omega) ?_
       intro w1 hown1 hg1
       simp only [Nat.zero_add, List.nil_append] at hown1
       have hc1 : w1.cell? ⟨w.heap.size, 0, none⟩ = some (.int .i64 s) := hg1.cell (by go_simp) (by simp)
       have hc2 : w1.cell? ⟨w.heap.size, 1, none⟩ = some (.int .i64 x) := hg1.cell (by go_simp) (by simp)
       have hsz : w.heap.size + 2 ≤ w1.heap.size := by simpa using hg1.size)
    | (at_builtin
       refine wpList_append_fits_any _ rfl (.tmp 13) (.tmp 28) _ rfl (w.heap.size + 1) 5 i0 1 Try.underlying34 hi hz1 (w.heap.size + 1) n (n + 4) (bytesV bs) rfl (by exact hown1.alloc _) (some ⟨w1.heap.size, 0, none⟩) 4 4 (bytesV (nameB s x)) rfl (by rfl) (by simp) (by intro ad had; obtain rfl := Option.some.inj had; exact World.news_of_block (cs := #[u8v s, u8v (x / 65536), u8v (x / 256 % 256), u8v (x % 256)]) (fr := (0, 0)) (heap_alloc_new w1 _)) (hone _) (by omega) ?_
       intro w2 hown2 hg2))
  go_ret
  have hB : Below w.heap.size w w2 := (((below2 w _ _).grown hg1 (by simp <;> omega) (by simp)).alloc (by omega) _).grown hg2 (by simp <;> omega) (by simp)
  refine ⟨_, rfl, ?_, hB⟩
  have hl : (bs ++ nameB s x).length = n + 4 := by
    have h1 := Hlen.out
    simp [bytesV] at h1
    simp [nameB, h1]
  rw [hl, bytesV, List.map_append]
  exact Joins.ownsRow_le hown2 (by omega)

theorem rput_any (A : Option Addr) (n c : Nat) (bs : List Int) (s x : Int) (w : World) (h : RdS w w.heap.size 1 A n c (bytesV bs)) (hn : n ≤ 1048576) (hs : 1 ≤ s ∧ s ≤ 8) (hx : 1 ≤ x ∧ x ≤ 1048576) :
    Calls Try.prog 23 #[.slice A n c, .agg #[.int .i64 s, .int .i64 x]] w (GivesB w (bs ++ nameB s x)) := by
  obtain ⟨i0, hi, hz0, hz1, hz2⟩ := info_parts info_u8
  obtain ⟨hs1, hs2⟩ := hs
  obtain ⟨hx1, hx2⟩ := hx
  have hone : ∀ l : List Int, ∀ u ∈ bytesV l, u.oneCell' = true := fun l u hu => by
    obtain ⟨_, _, rfl⟩ := List.mem_map.1 hu
    rfl
  have Hlen := Lib.hid h.len
  have H := Lib.hid h
  clear h
  go_enter Try.func23, Try.ntmps23
  go_wp2_with (first
    | (at_builtin
       refine wpList_append_rds rfl (.tmp 6) (.tmp 7) _ rfl (w.heap.size + 1) 5 i0 (.int .u8 0) 1 1 Try.underlying34 hi hz0 hz1 hz2 rfl (by decide) (.slice (some ⟨w.heap.size + 1, 0, none⟩) 0 0) 0 [] rfl (by exact own_new (by simp) (by omega) (by unfold maxLen; omega) (by simp) rfl) w.heap.size A n c (bytesV bs) rfl (by exact H.out.below (below2 _ _ _)) (hone _) (by unfold maxLen; omega) (by omega) (by simp <;> omega) ?_
       intro v1 w1 hown1 hg1 hat1
       simp only [Nat.zero_add, List.nil_append] at hown1
       have hc1 : w1.cell? ⟨w.heap.size, 0, none⟩ = some (.int .i64 s) := hg1.cell (by go_simp) (by simp [Value.ownBlock])
       have hc2 : w1.cell? ⟨w.heap.size, 1, none⟩ = some (.int .i64 x) := hg1.cell (by go_simp) (by simp [Value.ownBlock])
       have hsz : w.heap.size + 2 ≤ w1.heap.size := by simpa using hg1.size)
    | (at_builtin
       refine wpList_append_rds rfl (.tmp 9) (.tmp 26) _ rfl (w.heap.size + 1) 5 i0 (.int .u8 0) 1 1 Try.underlying34 hi hz0 hz1 hz2 rfl (by decide) v1 n (bytesV bs) rfl (by exact hown1.alloc _) (w1.heap.size + 1) (some ⟨w1.heap.size, 0, none⟩) 4 4 (bytesV (nameB s x)) rfl (by exact RdS.of_new (cs := #[u8v s, u8v (x / 65536), u8v (x / 256 % 256), u8v (x % 256)]) w1 rfl) (hone _) (by unfold maxLen; omega) (by omega) (by simp <;> omega) ?_
       intro v2 w2 hown2 hg2 hat2))
  go_ret
  have hg2' : ∀ k, v1.ownBlock = some k → w.heap.size ≤ k := fun k hk => by
    have := (hown1.lt k hk).1
    omega
  have hB : Below w.heap.size w w2 := (((below2 w _ _).grown hg1 (by simp <;> omega) (by simp [Value.ownBlock])).alloc (by omega) _).grown hg2 (by simp <;> omega) hg2'
  refine ⟨_, rfl, ?_, hB⟩
  have hl : (bs ++ nameB s x).length = n + 4 := by
    have h1 := Hlen.out
    simp [bytesV] at h1
    simp [nameB, h1]
  rw [hl, bytesV, List.map_append]
  exact Joins.ownsRow_le hown2 (by omega)
end Go.Proofs.Ytedihfggijcciaa
