/- Bytes in memory: words that every layer of bytes wants; bytes.Clone. -/
import Derived.Test.YtinhenmafjoaoaaGreatDoorProg
import Derived.Test.YtinhenmafjoaoaaGreatDoorBase
import Derived.LoopTactic
import Derived.Laws.MakeOwn
import Derived.Laws.Strings
import Derived.Lib.SliceRun
namespace Go.Proofs.YtinhenmafjoaoaaGreatDoor
open Go.RowKit
set_option linter.unusedSimpArgs false
set_option linter.unusedVariables false

def f8 (b : Nat) : List Value := [.int .u8 (b : Int)]
theorem f8_len (b : Nat) : (f8 b).length = 1 := rfl
theorem f8_one (b : Nat) : ∀ u ∈ f8 b, u.oneCell' = true := by simp [f8, Value.oneCell']
theorem take_snoc_ {α : Type} (l : List α) (k : Nat) (x : α) (h : l[k]? = some x) : l.take (k + 1) = l.take k ++ [x] := by
  rw [List.take_add_one, h]
  rfl
theorem below1 (w : World) (o : Obj) : Below w.heap.size w (w.alloc o) := (Below.refl _ _).alloc (Nat.le_refl _) o
theorem below2 (w : World) (o o' : Obj) : Below w.heap.size w ((w.alloc o).alloc o') := (below1 w o).alloc (by simp) o'
theorem ret_bool {a b : Bool} (h : a = b) : Ending.returned (.bool a) = .returned (.bool b) := by rw [h]
theorem rds_drew {w : World} {B size n c : Nat} {A : Option Addr} {xs : List Value} (h : RdS w B size A n c xs) : RdS w.drew B size A n c xs := h.keep fun _ _ => rfl
theorem rds_nil (w : World) (B size : Nat) : RdS w B size none 0 0 [] := ⟨by simp, fun _ => ⟨rfl, rfl⟩, Nat.le_refl _, fun a ha => (by cases ha), fun a ha => (by cases ha)⟩
theorem Whole.conv {w : World} {g : Nat} {t : TypeId} {cs cs' : List Value} (h : Whole w g t cs) (e : cs = cs') : Whole w g t cs' := e ▸ h
theorem info_u8 : (Tryz.prog.info? 5).map (fun i => (i.zero, i.size, i.bytes)) = some (some (.int .u8 0), 1, 1) := by kernel_rfl
theorem info_parts_ {o : Option TypeInfo} {z : Value} {s b : Nat} (h : o.map (fun i => (i.zero, i.size, i.bytes)) = some (some z, s, b)) : ∃ i, o = some i ∧ i.zero = some z ∧ i.size = s ∧ i.bytes = b := by
  cases o with
  | none => simp at h
  | some i => simp at h; exact ⟨i, rfl, h⟩
theorem f8_all (L : List Nat) : ∀ u ∈ rowsV f8 L, u.oneCell' = true := rowsV_one f8 f8_one L
theorem RdS.of_whole {W : World} {g : Nat} {t : TypeId} {cs : List Value} {n size : Nat} (h : Whole W g t cs) (hl : cs.length = n * size) : RdS W W.heap.size size (some ⟨g, 0, none⟩) n n cs :=
  ⟨hl, fun e => (by cases e), Nat.le_refl _, fun a ha _ => (by obtain rfl := Option.some.inj ha; exact h.lt), fun a ha j u hu => (by
    obtain rfl := Option.some.inj ha
    have hadd : (⟨g, 0, none⟩ : Addr).add j = ⟨g, j, none⟩ := by unfold Addr.add; split <;> simp_all
    rw [hadd]
    exact h.cell hu)⟩

theorem own_lo {w : World} {B B' n : Nat} {e : TypeId} {size : Nat} {v : Value} {xs : List Value} (h : w.ownsRow B e size v n xs) (hB : B' ≤ B) : w.ownsRow B' e size v n xs := by
  refine ⟨h.1, ?_⟩
  rcases h.2 with h | ⟨g, cap, cur, h1, h2, h3⟩
  · exact .inl h
  · exact .inr ⟨g, cap, cur, h1, Nat.le_trans hB h2, h3⟩
theorem RdS.fewer8 {w : World} {B n c : Nat} {A : Option Addr} {L : List Nat} (h : RdS w B 1 A n c (rowsV f8 L)) (k : Nat) : RdS w B 1 A (L.take k).length c (rowsV f8 (L.take k)) := by
  have hl := h.rlen f8_len (by decide)
  have hm : (L.take k).length ≤ n := by rw [List.length_take]; omega
  have := h.take_ (L.take k).length hm
  rw [← rowsV_take f8 f8_len] at this
  have e : L.take (L.take k).length = L.take k := by
    rw [List.length_take]
    rcases Nat.le_total k L.length with h | h
    · rw [Nat.min_eq_left h]
    · rw [Nat.min_eq_right h, List.take_length, List.take_of_length_le h]
  rwa [e] at this
/-- The text of bytes. -/
def txt (L : List Nat) : ByteArray := strB (L.map (fun b : Nat => (b : Int)))
theorem rows_bytes (L : List Nat) : rowsV f8 L = bytesV (L.map (fun b : Nat => (b : Int))) := by
  induction L with
  | nil => rfl
  | cons b L ih => simp only [rowsV, f8, ih]; rfl
theorem conv_txt {w : World} {B n c : Nat} {A : Option Addr} {L : List Nat} (h : RdS w B 1 A n c (rowsV f8 L)) : (convert 25 9 (.slice A n c)).run Tryz.prog w = .ok (.string (txt L)) w := by
  rw [rows_bytes] at h
  exact conv_rds Tryz.underlying25 Tryz.underlying5 Tryz.underlying9 h
theorem exec_convert {P : Program} {ev : Operand → Value} {o : Oper} {w : World} (s d : TypeId) (x : Operand) (ho : o.op = .convert s d x) {v u : Value} (hx : ev x = v) (hrun : (convert s d v).run P w = .ok u w) : (execOp ev o).run P w = .ok (.value u) w := by
  unfold execOp
  simp only [ho, hx, Sem.run_bind, Sem.run_pure, Result.andThen_ok, hrun]
theorem push_bytes (bs : List Int) : ∀ r : ByteArray, (bs.foldl (fun r n => r.push (UInt8.ofNat n.toNat)) r).data.toList = r.data.toList ++ bs.map fun n => UInt8.ofNat n.toNat := by
  induction bs with
  | nil => intro r; simp
  | cons b bs ih => intro r; rw [List.foldl_cons, ih]; simp [ByteArray.push]
theorem txt_list (L : List Nat) : (txt L).toList = L.map UInt8.ofNat := by
  rw [ByteArray.toList_eq]
  unfold txt strB
  rw [push_bytes]
  simp [Function.comp_def]
theorem ofNat_inj {a b : Nat} (ha : a < 256) (hb : b < 256) (h : UInt8.ofNat a = UInt8.ofNat b) : a = b := by
  have := congrArg UInt8.toNat h
  rw [UInt8.toNat_ofNat', UInt8.toNat_ofNat'] at this
  omega
theorem map_ofNat_inj : ∀ {P Q : List Nat}, (∀ b ∈ P, b < 256) → (∀ b ∈ Q, b < 256) → P.map UInt8.ofNat = Q.map UInt8.ofNat → P = Q
  | [], [], _, _, _ => rfl
  | [], _ :: _, _, _, h => by simp at h
  | _ :: _, [], _, _, h => by simp at h
  | a :: P, b :: Q, hp, hq, h => by
    simp only [List.map_cons, List.cons.injEq] at h
    rw [ofNat_inj (hp a (by simp)) (hq b (by simp)) h.1, map_ofNat_inj (fun x hx => hp x (by simp [hx])) (fun x hx => hq x (by simp [hx])) h.2]
theorem txt_eq {P Q : List Nat} (hp : ∀ b ∈ P, b < 256) (hq : ∀ b ∈ Q, b < 256) : ((txt P).toList == (txt Q).toList) = decide (P = Q) := by
  rw [txt_list, txt_list]
  by_cases h : P = Q
  · subst h; simp
  · rw [decide_eq_false h, beq_eq_false_iff_ne]; exact fun e => h (map_ofNat_inj hp hq e)
/-- A slice of the call's own making. -/
def GivesC (w : World) (L : List Nat) (e : Ending) (w' : World) : Prop :=
  ∃ A c, e = .returned (.slice A L.length c) ∧ RdS w' w'.heap.size 1 A L.length c (rowsV f8 L) ∧ (∀ a, A = some a → 0 < L.length → w.heap.size ≤ a.block) ∧ w'.ownsRow w.heap.size 5 1 (.slice A L.length c) L.length (rowsV f8 L) ∧ Below w.heap.size w w'
set_option maxRecDepth 100000 in
set_option maxHeartbeats 1000000 in
theorem clone_any (a : Addr) (n c : Nat) (L : List Nat) (w : World) (h : RdS w w.heap.size 1 (some a) n c (rowsV f8 L)) (hn : n ≤ 100000) :
    Calls Tryz.prog 84 #[.slice (some a) n c] w (GivesC w L) := by
  have hl := h.rlen f8_len (by decide)
  obtain rfl := hl
  obtain ⟨i0, hi, hz0, hz1, hz2⟩ := info_parts_ info_u8
  have HR := Lib.hid h
  clear h
  have HP : RowKit.Hid (Ow w w.heap.size 5 1 (.slice (some ⟨w.heap.size, 0, none⟩) 0 0) 0 [] (w.alloc (.cells #[] 5))) := Lib.hid (Ow.new_ (cs := #[]) (Below.refl _ _) (Nat.le_refl _) (Nat.le_refl _) (Nat.zero_le _) rfl)
  have HR1 := Lib.hid (HR.out.al (.cells #[] 5))
  have hnil : ∀ w', (binOp .eql 25 (.slice (some a) L.length c) (.slice none 0 0)).run Tryz.prog w' = .ok (.bool false) w' := fun w' => Lib.run_eql_slice_nil w' _ _ _ _ _ _ _ Tryz.underlying25
  go_enter Tryz.func84, Tryz.ntmps84
  go_wp2_with (first
    | (at_builtin
       refine wpList_push2 rfl (.tmp 5) (.tmp 6) _ rfl _ 5 i0 _ 1 1 Tryz.underlying25 hi hz0 hz1 hz2 rfl (by decide) _ _ _ rfl HP.out _ _ _ _ _ rfl HR1.out (f8_all L) (by unfold maxLen; omega) (by omega) ?_
       intro v1 W5 how1 hb1 hgr1
       rw [Nat.zero_add, List.nil_append] at how1
       obtain ⟨A5, c5, rfl, hr5⟩ := how1.rds
       have HP5 := Lib.hid how1
       have HR5 := Lib.hid hr5
       clear how1 hb1 hgr1 hr5))
  go_ret
  exact ⟨A5, c5, rfl, HR5.out, fun a ha _ => by subst ha; exact (HP5.out.own.lt a.block rfl).1, HP5.out.own, HP5.out.below⟩
set_option maxRecDepth 100000 in
theorem clone_gen (A : Option Addr) (c : Nat) (L : List Nat) (w : World) (h : RdS w w.heap.size 1 A L.length c (rowsV f8 L)) (hn : L.length ≤ 100000) :
    Calls Tryz.prog 84 #[.slice A L.length c] w (GivesC w L) := by
  cases A with
  | some a => exact clone_any a L.length c L w h hn
  | none =>
    obtain ⟨h1, rfl⟩ := h.none_ rfl
    obtain rfl : L = [] := List.eq_nil_of_length_eq_zero h1
    have hnil : ∀ w', (binOp .eql 25 (.slice none 0 0) (.slice none 0 0)).run Tryz.prog w' = .ok (.bool true) w' := fun w' => Lib.run_eql_slice_nil w' _ _ _ _ _ _ _ Tryz.underlying25
    clear h hn h1
    show Calls Tryz.prog 84 #[.slice none 0 0] w (GivesC w [])
    go_enter Tryz.func84, Tryz.ntmps84
    go_wp2
    go_ret
    exact ⟨none, 0, rfl, rds_nil _ _ _, fun a ha => (by cases ha), World.ownsRow_nil _ _ _ _, Below.refl _ _⟩
theorem rowsV_map8 (L : List Nat) : rowsV f8 L = L.map (fun b : Nat => Value.int .u8 (b : Int)) := by
  induction L with
  | nil => rfl
  | cons b L ih => simp only [rowsV, f8, ih]; rfl
end Go.Proofs.YtinhenmafjoaoaaGreatDoor
