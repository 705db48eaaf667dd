/- Several texts in one. -/
import Derived.Test.YtibbibpfnpjjdaaProg
import Derived.Test.YtibbibpfnpjjdaaNAA
import Derived.LoopTactic
import Derived.Laws.MakeOwn
import Derived.Laws.Strings
import Derived.Lib.SliceRun
import Derived.Laws.OwnMore
import Derived.Laws.BitsAllLaws
import Derived.Deep.WholeRow

/- Bytes in memory: words that every layer of bytes wants; bytes.Clone. -/
namespace Go.Proofs.Ytibbibpfnpjjdaa
open Go.RowKit
set_option linter.unusedSimpArgs false
set_option linter.unusedVariables false

def f8 (b : Nat) : List Value := [.int .u8 (b : Int)]
theorem f8_len (b : Nat) : (f8 b).length = 1 := rfl
theorem f8_one (b : Nat) : ∀ u ∈ f8 b, u.oneCell' = true := by simp [f8, Value.oneCell']
theorem take_snoc_ {α : Type} (l : List α) (k : Nat) (x : α) (h : l[k]? = some x) : l.take (k + 1) = l.take k ++ [x] := by
  rw [List.take_add_one, h]
  rfl
theorem below1 (w : World) (o : Obj) : Below w.heap.size w (w.alloc o) := (Below.refl _ _).alloc (Nat.le_refl _) o
theorem below2 (w : World) (o o' : Obj) : Below w.heap.size w ((w.alloc o).alloc o') := (below1 w o).alloc (by simp) o'
theorem ret_bool {a b : Bool} (h : a = b) : Ending.returned (.bool a) = .returned (.bool b) := by rw [h]
theorem rds_drew {w : World} {B size n c : Nat} {A : Option Addr} {xs : List Value} (h : RdS w B size A n c xs) : RdS w.drew B size A n c xs := h.keep fun _ _ => rfl
theorem rds_nil (w : World) (B size : Nat) : RdS w B size none 0 0 [] := ⟨by simp, fun _ => ⟨rfl, rfl⟩, Nat.le_refl _, fun a ha => (by cases ha), fun a ha => (by cases ha)⟩
theorem Whole.conv {w : World} {g : Nat} {t : TypeId} {cs cs' : List Value} (h : Whole w g t cs) (e : cs = cs') : Whole w g t cs' := e ▸ h
theorem info_u8 : (Try.prog.info? 5).map (fun i => (i.zero, i.size, i.bytes)) = some (some (.int .u8 0), 1, 1) := by kernel_rfl
theorem info_parts_ {o : Option TypeInfo} {z : Value} {s b : Nat} (h : o.map (fun i => (i.zero, i.size, i.bytes)) = some (some z, s, b)) : ∃ i, o = some i ∧ i.zero = some z ∧ i.size = s ∧ i.bytes = b := by
  cases o with
  | none => simp at h
  | some i => simp at h; exact ⟨i, rfl, h⟩
theorem f8_all (L : List Nat) : ∀ u ∈ rowsV f8 L, u.oneCell' = true := rowsV_one f8 f8_one L
theorem RdS.of_whole {W : World} {g : Nat} {t : TypeId} {cs : List Value} {n size : Nat} (h : Whole W g t cs) (hl : cs.length = n * size) : RdS W W.heap.size size (some ⟨g, 0, none⟩) n n cs :=
  ⟨hl, fun e => (by cases e), Nat.le_refl _, fun a ha _ => (by obtain rfl := Option.some.inj ha; exact h.lt), fun a ha j u hu => (by
    obtain rfl := Option.some.inj ha
    have hadd : (⟨g, 0, none⟩ : Addr).add j = ⟨g, j, none⟩ := by unfold Addr.add; split <;> simp_all
    rw [hadd]
    exact h.cell hu)⟩

theorem own_lo {w : World} {B B' n : Nat} {e : TypeId} {size : Nat} {v : Value} {xs : List Value} (h : w.ownsRow B e size v n xs) (hB : B' ≤ B) : w.ownsRow B' e size v n xs := by
  refine ⟨h.1, ?_⟩
  rcases h.2 with h | ⟨g, cap, cur, h1, h2, h3⟩
  · exact .inl h
  · exact .inr ⟨g, cap, cur, h1, Nat.le_trans hB h2, h3⟩
theorem RdS.fewer8 {w : World} {B n c : Nat} {A : Option Addr} {L : List Nat} (h : RdS w B 1 A n c (rowsV f8 L)) (k : Nat) : RdS w B 1 A (L.take k).length c (rowsV f8 (L.take k)) := by
  have hl := h.rlen f8_len (by decide)
  have hm : (L.take k).length ≤ n := by rw [List.length_take]; omega
  have := h.take_ (L.take k).length hm
  rw [← rowsV_take f8 f8_len] at this
  have e : L.take (L.take k).length = L.take k := by
    rw [List.length_take]
    rcases Nat.le_total k L.length with h | h
    · rw [Nat.min_eq_left h]
    · rw [Nat.min_eq_right h, List.take_length, List.take_of_length_le h]
  rwa [e] at this
/-- The text of bytes. -/
def txt (L : List Nat) : ByteArray := strB (L.map (fun b : Nat => (b : Int)))
theorem rows_bytes (L : List Nat) : rowsV f8 L = bytesV (L.map (fun b : Nat => (b : Int))) := by
  induction L with
  | nil => rfl
  | cons b L ih => simp only [rowsV, f8, ih]; rfl
theorem conv_txt {w : World} {B n c : Nat} {A : Option Addr} {L : List Nat} (h : RdS w B 1 A n c (rowsV f8 L)) : (convert 32 9 (.slice A n c)).run Try.prog w = .ok (.string (txt L)) w := by
  rw [rows_bytes] at h
  exact conv_rds Try.underlying32 Try.underlying5 Try.underlying9 h
theorem exec_convert {P : Program} {ev : Operand → Value} {o : Oper} {w : World} (s d : TypeId) (x : Operand) (ho : o.op = .convert s d x) {v u : Value} (hx : ev x = v) (hrun : (convert s d v).run P w = .ok u w) : (execOp ev o).run P w = .ok (.value u) w := by
  unfold execOp
  simp only [ho, hx, Sem.run_bind, Sem.run_pure, Result.andThen_ok, hrun]
theorem push_bytes (bs : List Int) : ∀ r : ByteArray, (bs.foldl (fun r n => r.push (UInt8.ofNat n.toNat)) r).data.toList = r.data.toList ++ bs.map fun n => UInt8.ofNat n.toNat := by
  induction bs with
  | nil => intro r; simp
  | cons b bs ih => intro r; rw [List.foldl_cons, ih]; simp [ByteArray.push]
theorem txt_list (L : List Nat) : (txt L).toList = L.map UInt8.ofNat := by
  rw [ByteArray.toList_eq]
  unfold txt strB
  rw [push_bytes]
  simp [Function.comp_def]
theorem ofNat_inj {a b : Nat} (ha : a < 256) (hb : b < 256) (h : UInt8.ofNat a = UInt8.ofNat b) : a = b := by
  have := congrArg UInt8.toNat h
  rw [UInt8.toNat_ofNat', UInt8.toNat_ofNat'] at this
  omega
theorem map_ofNat_inj : ∀ {P Q : List Nat}, (∀ b ∈ P, b < 256) → (∀ b ∈ Q, b < 256) → P.map UInt8.ofNat = Q.map UInt8.ofNat → P = Q
  | [], [], _, _, _ => rfl
  | [], _ :: _, _, _, h => by simp at h
  | _ :: _, [], _, _, h => by simp at h
  | a :: P, b :: Q, hp, hq, h => by
    simp only [List.map_cons, List.cons.injEq] at h
    rw [ofNat_inj (hp a (by simp)) (hq b (by simp)) h.1, map_ofNat_inj (fun x hx => hp x (by simp [hx])) (fun x hx => hq x (by simp [hx])) h.2]
theorem txt_eq {P Q : List Nat} (hp : ∀ b ∈ P, b < 256) (hq : ∀ b ∈ Q, b < 256) : ((txt P).toList == (txt Q).toList) = decide (P = Q) := by
  rw [txt_list, txt_list]
  by_cases h : P = Q
  · subst h; simp
  · rw [decide_eq_false h, beq_eq_false_iff_ne]; exact fun e => h (map_ofNat_inj hp hq e)
/-- A slice of the call's own making. -/
def GivesC (w : World) (L : List Nat) (e : Ending) (w' : World) : Prop :=
  ∃ A c, e = .returned (.slice A L.length c) ∧ RdS w' w'.heap.size 1 A L.length c (rowsV f8 L) ∧ (∀ a, A = some a → 0 < L.length → w.heap.size ≤ a.block) ∧ w'.ownsRow w.heap.size 5 1 (.slice A L.length c) L.length (rowsV f8 L) ∧ Below w.heap.size w w'
set_option maxRecDepth 100000 in
set_option maxHeartbeats 1000000 in
theorem clone_any (a : Addr) (n c : Nat) (L : List Nat) (w : World) (h : RdS w w.heap.size 1 (some a) n c (rowsV f8 L)) (hn : n ≤ 100000) :
    Calls Try.prog 38 #[.slice (some a) n c] w (GivesC w L) := by
  have hl := h.rlen f8_len (by decide)
  obtain rfl := hl
  obtain ⟨i0, hi, hz0, hz1, hz2⟩ := info_parts_ info_u8
  have HR := Lib.hid h
  clear h
  have HP : RowKit.Hid (Ow w w.heap.size 5 1 (.slice (some ⟨w.heap.size, 0, none⟩) 0 0) 0 [] (w.alloc (.cells #[] 5))) := Lib.hid (Ow.new_ (cs := #[]) (Below.refl _ _) (Nat.le_refl _) (Nat.le_refl _) (Nat.zero_le _) rfl)
  have HR1 := Lib.hid (HR.out.al (.cells #[] 5))
  have hnil : ∀ w', (binOp .eql 32 (.slice (some a) L.length c) (.slice none 0 0)).run Try.prog w' = .ok (.bool false) w' := fun w' => Lib.run_eql_slice_nil w' _ _ _ _ _ _ _ Try.underlying32
  go_enter Try.func38, Try.ntmps38
  go_wp2_with (first
    | (at_builtin
       refine wpList_push2 rfl (.tmp 5) (.tmp 6) _ rfl _ 5 i0 _ 1 1 Try.underlying32 hi hz0 hz1 hz2 rfl (by decide) _ _ _ rfl HP.out _ _ _ _ _ rfl HR1.out (f8_all L) (by unfold maxLen; omega) (by omega) ?_
       intro v1 W5 how1 hb1 hgr1
       rw [Nat.zero_add, List.nil_append] at how1
       obtain ⟨A5, c5, rfl, hr5⟩ := how1.rds
       have HP5 := Lib.hid how1
       have HR5 := Lib.hid hr5
       clear how1 hb1 hgr1 hr5))
  go_ret
  exact ⟨A5, c5, rfl, HR5.out, fun a ha _ => by subst ha; exact (HP5.out.own.lt a.block rfl).1, HP5.out.own, HP5.out.below⟩
set_option maxRecDepth 100000 in
theorem clone_gen (A : Option Addr) (c : Nat) (L : List Nat) (w : World) (h : RdS w w.heap.size 1 A L.length c (rowsV f8 L)) (hn : L.length ≤ 100000) :
    Calls Try.prog 38 #[.slice A L.length c] w (GivesC w L) := by
  cases A with
  | some a => exact clone_any a L.length c L w h hn
  | none =>
    obtain ⟨h1, rfl⟩ := h.none_ rfl
    obtain rfl : L = [] := List.eq_nil_of_length_eq_zero h1
    have hnil : ∀ w', (binOp .eql 32 (.slice none 0 0) (.slice none 0 0)).run Try.prog w' = .ok (.bool true) w' := fun w' => Lib.run_eql_slice_nil w' _ _ _ _ _ _ _ Try.underlying32
    clear h hn h1
    show Calls Try.prog 38 #[.slice none 0 0] w (GivesC w [])
    go_enter Try.func38, Try.ntmps38
    go_wp2
    go_ret
    exact ⟨none, 0, rfl, rds_nil _ _ _, fun a ha => (by cases ha), World.ownsRow_nil _ _ _ _, Below.refl _ _⟩
theorem rowsV_map8 (L : List Nat) : rowsV f8 L = L.map (fun b : Nat => Value.int .u8 (b : Int)) := by
  induction L with
  | nil => rfl
  | cons b L ih => simp only [rowsV, f8, ih]; rfl
end Go.Proofs.Ytibbibpfnpjjdaa

/- Rows of rows of bytes; rows of ints compared. -/
namespace Go.Proofs.Ytibbibpfnpjjdaa
open Go.RowKit
set_option linter.unusedSimpArgs false
set_option linter.unusedVariables false

/-- A slice of bytes as a cell: where, how long, how much room. -/
abbrev Sl := Option Addr × Nat × Nat
def slc (e : Sl) : List Value := [.slice e.1 e.2.1 e.2.2]
theorem slc_len (e : Sl) : (slc e).length = 1 := rfl
theorem slc_one (e : Sl) : ∀ u ∈ slc e, u.oneCell' = true := by simp [slc, Value.oneCell']
theorem slc_all (es : List Sl) : ∀ u ∈ rowsV slc es, u.oneCell' = true := rowsV_one slc slc_one es
theorem info_sl : (Try.prog.info? 32).map (fun i => (i.zero, i.size, i.bytes)) = some (some (.slice none 0 0), 1, 24) := by kernel_rfl
theorem rowsV_get1 (es : List Sl) (i : Nat) : (rowsV slc es)[i]? = es[i]?.map (fun e => Value.slice e.1 e.2.1 e.2.2) := by
  induction es generalizing i with
  | nil => rfl
  | cons e es ih => cases i <;> simp [rowsV, slc, ih]
theorem own_kept {S : Nat → Prop} {w w' : World} {B n : Nat} {e : TypeId} {size : Nat} {v : Value} {xs : List Value} (h : w.ownsRow B e size v n xs) (hk : Kept S w w') (hne : ∀ b, v.ownBlock = some b → ¬ S b) : w'.ownsRow B e size v n xs := by
  refine ⟨h.1, ?_⟩
  rcases h.2 with h3 | ⟨b, cap, cur, e1, e2, e3, e4⟩
  · exact .inl h3
  · have hlt : b < w.heap.size := (Array.getElem?_eq_some_iff.1 e3).1
    exact .inr ⟨b, cap, cur, e1, e2, (hk.block b hlt (hne b (by rw [e1]; rfl))).trans e3, e4⟩
theorem rowsV_atS {es : List Sl} {i : Nat} {e : Sl} (h : es[i]? = some e) : (rowsV slc es)[i]? = some (.slice e.1 e.2.1 e.2.2) := by
  have := rowsV_get slc slc_len es i e h 0 _ rfl
  simpa using this
theorem info_int : (Try.prog.info? 3).map (fun i => (i.zero, i.size, i.bytes)) = some (some (.int .i64 0), 1, 8) := by kernel_rfl
def intC (x : Int) : List Value := [.int .i64 x]
theorem intC_len (x : Int) : (intC x).length = 1 := rfl
set_option maxRecDepth 100000 in
set_option maxHeartbeats 1000000 in
theorem ints_eq (A1 A2 : Option Addr) (n c1 c2 : Nat) (xs : List Int) (w : World) (h1 : RdS w w.heap.size 1 A1 n c1 (rowsV intC xs)) (h2 : RdS w w.heap.size 1 A2 n c2 (rowsV intC xs)) (hn : n ≤ 200000) :
    Calls Try.prog 15 #[.slice A1 n c1, .slice A2 n c2] w fun e w' => e = .returned (.bool true) ∧ Below w.heap.size w w' := by
  have hl := h1.rlen intC_len (by decide)
  have H1 := Lib.hid h1
  have H2 := Lib.hid h2
  have Hl := Lib.hid hl
  clear h1 h2 hl
  go_enter Try.func15, Try.ntmps15
  go_wp2
  go_loopw [5] (fun si wr => ∃ j : Nat, j ≤ n ∧ si = .int .i64 j ∧ RowKit.Hid (Below w.heap.size w wr)) (fun si _ => n - (intOf si).toNat)
  case atStart => exact ⟨0, Nat.zero_le _, rfl, Lib.hid (Below.refl _ _)⟩
  case round =>
    obtain ⟨j, hj, rfl, HB⟩ := hrel
    by_cases hjn : j < n
    · obtain ⟨b1, o1, rfl, hb1, hp1⟩ := H1.out.place intC_len (by decide) (by omega)
      obtain ⟨b2, o2, rfl, hb2, hp2⟩ := H2.out.place intC_len (by decide) (by omega)
      obtain ⟨x, hx⟩ : ∃ x, xs[j]? = some x := ⟨_, List.getElem?_eq_getElem (by have := Hl.out; omega)⟩
      have k1 := hp1 j x hx 0 (.int .i64 x) rfl
      have k2 := hp2 j x hx 0 (.int .i64 x) rfl
      rw [Addr.add_lit] at k1 k2
      simp only [Nat.add_zero, Nat.mul_one] at k1 k2
      have k1' := (HB.out.cell (p := ⟨b1, o1 + j, none⟩) hb1).trans k1
      have k2' := (HB.out.cell (p := ⟨b2, o2 + j, none⟩) hb2).trans k2
      have ld1 : ∀ w', Kept Nil_ wr.drew w' → w'.cell? ⟨b1, o1 + j, none⟩ = some (.int .i64 x) := fun w' hk => hk.nil_cell (show wr.drew.cell? ⟨b1, o1 + j, none⟩ = _ from k1')
      have ld2 : ∀ w', Kept Nil_ wr.drew w' → w'.cell? ⟨b2, o2 + j, none⟩ = some (.int .i64 x) := fun w' hk => hk.nil_cell (show wr.drew.cell? ⟨b2, o2 + j, none⟩ = _ from k2')
      clear hx hp1 hp2 k1 k2 k1' k2' hb1 hb2
      go_upto_region 6 with fail
      refine wp_region_reg (Nil_) (by kernel_rfl) ?_
      apply wpR_next 0 (some 17)
      · simp only [List.getElem?_toArray, List.getElem?_cons_succ, List.getElem?_cons_zero]; exact rfl
      · rfl
      · kernel_rfl
      · kernel_rfl
      · kernel_rfl
      · exact fun _ _ _ _ h => h
      apply Exists.intro
      apply And.intro
      · apply yr_run; rfl; intro w' hw'; go_simp; (try with_reducible rfl)
      simp only [Act.put, List.setIfInBounds_toArray, List.set_cons_zero, List.set_cons_succ]
      apply wpR_next 1 (some 18)
      · simp only [List.getElem?_toArray, List.getElem?_cons_succ, List.getElem?_cons_zero]; exact rfl
      · rfl
      · kernel_rfl
      · kernel_rfl
      · kernel_rfl
      · exact fun _ _ _ _ h => h
      apply Exists.intro
      apply And.intro
      · apply yr_run; rfl; intro w' hw'; go_simp; (try with_reducible rfl)
      simp only [Act.put, List.setIfInBounds_toArray, List.set_cons_zero, List.set_cons_succ]
      apply wpR_next 2 (some 19)
      · simp only [List.getElem?_toArray, List.getElem?_cons_succ, List.getElem?_cons_zero]; exact rfl
      · rfl
      · kernel_rfl
      · kernel_rfl
      · kernel_rfl
      · exact fun _ _ _ _ h => h
      apply Exists.intro
      apply And.intro
      · apply yr_run; rfl; intro w' hw'; go_simp; (try with_reducible rfl)
      simp only [Act.put, List.setIfInBounds_toArray, List.set_cons_zero, List.set_cons_succ]
      apply wpR_next 3 (some 20)
      · simp only [List.getElem?_toArray, List.getElem?_cons_succ, List.getElem?_cons_zero]; exact rfl
      · rfl
      · kernel_rfl
      · kernel_rfl
      · kernel_rfl
      · exact fun _ _ _ _ h => h
      apply Exists.intro
      apply And.intro
      · apply yr_run; rfl; intro w' hw'; go_simp; (try with_reducible rfl)
      simp only [Act.put, List.setIfInBounds_toArray, List.set_cons_zero, List.set_cons_succ]
      apply wpR_next 4 (some 21)
      · simp only [List.getElem?_toArray, List.getElem?_cons_succ, List.getElem?_cons_zero]; exact rfl
      · rfl
      · kernel_rfl
      · kernel_rfl
      · kernel_rfl
      · exact fun _ _ _ _ h => h
      apply Exists.intro
      apply And.intro
      · apply yr_run; rfl; intro w' hw'; go_simp; (try with_reducible rfl)
      simp only [Act.put, List.setIfInBounds_toArray, List.set_cons_zero, List.set_cons_succ]
      apply wpR_next 5 (some 22)
      · simp only [List.getElem?_toArray, List.getElem?_cons_succ, List.getElem?_cons_zero]; exact rfl
      · rfl
      · kernel_rfl
      · kernel_rfl
      · kernel_rfl
      · exact fun _ _ _ _ h => h
      apply Exists.intro
      apply And.intro
      · apply yr_run; rfl; intro w' hw'; go_simp; (try with_reducible rfl)
      simp only [Act.put, List.setIfInBounds_toArray, List.set_cons_zero, List.set_cons_succ]
      apply wpR_next 6 (some 23)
      · simp only [List.getElem?_toArray, List.getElem?_cons_succ, List.getElem?_cons_zero]; exact rfl
      · rfl
      · kernel_rfl
      · kernel_rfl
      · kernel_rfl
      · exact fun _ _ _ _ h => h
      apply Exists.intro
      apply And.intro
      · apply yr_run; rfl; intro w' hw'; go_simp; (try with_reducible rfl)
      simp only [Act.put, List.setIfInBounds_toArray, List.set_cons_zero, List.set_cons_succ]
      apply wpR_next 7 (some 24)
      · simp only [List.getElem?_toArray, List.getElem?_cons_succ, List.getElem?_cons_zero]; exact rfl
      · rfl
      · kernel_rfl
      · kernel_rfl
      · kernel_rfl
      · exact fun _ _ _ _ h => h
      apply Exists.intro
      apply And.intro
      · apply yr_run; rfl; intro w' hw'; go_simp; (try with_reducible rfl)
      simp only [Act.put, List.setIfInBounds_toArray, List.set_cons_zero, List.set_cons_succ]
      apply wpR_next 8 (some 25)
      · simp only [List.getElem?_toArray, List.getElem?_cons_succ, List.getElem?_cons_zero]; exact rfl
      · rfl
      · kernel_rfl
      · kernel_rfl
      · kernel_rfl
      · exact fun _ _ _ _ h => h
      apply Exists.intro
      apply And.intro
      · apply yr_run; rfl; intro w' hw'; go_simp; (try with_reducible rfl)
      simp only [Act.put, List.setIfInBounds_toArray, List.set_cons_zero, List.set_cons_succ]
      refine wpR_done (by kernel_rfl) ?_ _
      intro W5 hw5
      have HB5 : RowKit.Hid (Below w.heap.size w W5) := Lib.hid (bel_bl HB.out (Ext.trans ((Below.refl _ _).drew) hw5))
      clear hw5 ld1 ld2 HB
      go_wp2
      go_roundw
      case rel => exact ⟨j + 1, by omega, by go_num, HB5⟩
      case measure => simp [intOf]; omega
    · obtain rfl : j = n := by omega
      go_wp2
      go_ret
      exact ⟨rfl, HB.out⟩
theorem RdS.of_marked {cs : Array Value} {t : TypeId} (w : World) (fr : Nat × Nat) {n size : Nat} (hn : cs.toList.length = n * size) : RdS (w.alloc (.cells cs t fr)) (w.alloc (.cells cs t fr)).heap.size size (some ⟨w.heap.size, 0, none⟩) n n cs.toList :=
  ⟨hn, fun e => (by cases e), Nat.le_refl _, fun a ha _ => (by obtain rfl := Option.some.inj ha; simp), fun a ha => (by obtain rfl := Option.some.inj ha; exact World.news_of_block (fr := fr) (heap_alloc_new w _))⟩
end Go.Proofs.Ytibbibpfnpjjdaa

/- The sum of bytes: numbers alone. -/
namespace Go.Proofs.Ytibbibpfnpjjdaa

def crcStep (r : Nat) : Nat := if r % 2 = 1 then (r / 2) ^^^ 3988292384 else r / 2
def crcBits : Nat → Nat → Nat
  | 0, r => r
  | k + 1, r => crcStep (crcBits k r)
def crcByte (r b : Nat) : Nat := crcBits 8 (r ^^^ b)
def crcL (r : Nat) (L : List Nat) : Nat := L.foldl crcByte r
def crc (L : List Nat) : Nat := crcL 4294967295 L ^^^ 4294967295

theorem crcStep_lt {r : Nat} (h : r < 4294967296) : crcStep r < 4294967296 := by
  unfold crcStep
  split
  · exact Nat.xor_lt_two_pow (n := 32) (by omega) (by omega)
  · omega
theorem crcBits_lt {k r : Nat} (h : r < 4294967296) : crcBits k r < 4294967296 := by
  induction k with
  | zero => exact h
  | succ k ih => exact crcStep_lt ih
theorem crcByte_lt {r b : Nat} (h : r < 4294967296) (hb : b < 256) : crcByte r b < 4294967296 := crcBits_lt (Nat.xor_lt_two_pow (n := 32) (by omega) (by omega))
theorem crcL_lt {L : List Nat} : ∀ {r : Nat}, r < 4294967296 → (∀ b ∈ L, b < 256) → crcL r L < 4294967296 := by
  induction L with
  | nil => intro r h _; exact h
  | cons b L ih => intro r h hb; exact ih (crcByte_lt h (hb b (by simp))) (fun x hx => hb x (by simp [hx]))
theorem crcL_snoc (r : Nat) (L : List Nat) (b : Nat) : crcL r (L ++ [b]) = crcByte (crcL r L) b := by simp [crcL]
theorem crc_lt {L : List Nat} (hb : ∀ b ∈ L, b < 256) : crc L < 4294967296 := Nat.xor_lt_two_pow (n := 32) (crcL_lt (by omega) hb) (by omega)

/-- One step as the program takes it. -/
theorem step_prog (r : Nat) (h : r < 4294967296) :
    bits .xor .u32 ((r : Int) / 2) (bits .and .u32 3988292384 (IntKind.u32.wrap (0 - bits .and .u32 (r : Int) 1))) = ((crcStep r : Nat) : Int) := by
  have h1 : bits .and .u32 (r : Int) 1 = ((r % 2 : Nat) : Int) := by
    have := u32_and_nat r 1 h (by omega)
    rw [show ((1 : Nat) : Int) = 1 from rfl] at this
    rw [this, Nat.and_one_is_mod]
  rw [h1]
  unfold crcStep
  rcases Nat.mod_two_eq_zero_or_one r with h2 | h2
  · rw [h2, if_neg (by omega)]
    have e1 : IntKind.u32.wrap (0 - ((0 : Nat) : Int)) = ((0 : Nat) : Int) := by rw [IntKind.wrap_u32']; rfl
    rw [e1]
    have e2 := u32_and_nat 3988292384 0 (by omega) (by omega)
    rw [show ((3988292384 : Nat) : Int) = 3988292384 from rfl, Nat.and_zero] at e2
    rw [e2]
    have e3 := u32_xor_nat (r / 2) 0 (by omega) (by omega)
    rw [Nat.xor_zero] at e3
    rw [← e3]
    congr 1
  · rw [h2, if_pos rfl]
    have e1 : IntKind.u32.wrap (0 - ((1 : Nat) : Int)) = ((4294967295 : Nat) : Int) := by rw [IntKind.wrap_u32']; rfl
    rw [e1]
    have e2 := u32_and_nat 3988292384 4294967295 (by omega) (by omega)
    rw [show ((3988292384 : Nat) : Int) = 3988292384 from rfl, show 3988292384 &&& 4294967295 = 3988292384 by decide] at e2
    rw [e2]
    exact u32_xor_nat (r / 2) 3988292384 (by omega) (by omega)

/-! The sum is linear, and each step is one to one. -/
theorem crcStep_xor (a b : Nat) : crcStep (a ^^^ b) = crcStep a ^^^ crcStep b := by
  unfold crcStep
  have hm : (a ^^^ b) % 2 = (a % 2 + b % 2) % 2 := by
    have := Nat.xor_mod_two_pow (a := a) (b := b) (n := 1)
    rw [show 2 ^ 1 = 2 from rfl] at this
    rw [this]
    rcases Nat.mod_two_eq_zero_or_one a with ha | ha <;> rcases Nat.mod_two_eq_zero_or_one b with hb | hb <;> rw [ha, hb] <;> rfl
  have hd : (a ^^^ b) / 2 = (a / 2) ^^^ (b / 2) := Nat.xor_div_two
  rw [hd]
  rcases Nat.mod_two_eq_zero_or_one a with ha | ha <;> rcases Nat.mod_two_eq_zero_or_one b with hb | hb
  · rw [if_neg (by omega), if_neg (by omega), if_neg (by omega)]
  · rw [if_pos (by omega), if_neg (by omega), if_pos (by omega), Nat.xor_assoc]
  · rw [if_pos (by omega), if_pos (by omega), if_neg (by omega), Nat.xor_assoc, Nat.xor_assoc, Nat.xor_comm (b / 2)]
  · rw [if_neg (by omega), if_pos (by omega), if_pos (by omega)]
    rw [Nat.xor_assoc, ← Nat.xor_assoc 3988292384, Nat.xor_comm 3988292384 (b / 2), Nat.xor_assoc (b / 2), Nat.xor_self, Nat.xor_zero]
theorem crcBits_xor (k a b : Nat) : crcBits k (a ^^^ b) = crcBits k a ^^^ crcBits k b := by
  induction k with
  | zero => rfl
  | succ k ih => simp only [crcBits, ih, crcStep_xor]
theorem xor4 (a b c d : Nat) : (a ^^^ b) ^^^ (c ^^^ d) = (a ^^^ c) ^^^ (b ^^^ d) := by
  rw [Nat.xor_assoc, Nat.xor_assoc, ← Nat.xor_assoc b, Nat.xor_comm b c, Nat.xor_assoc c]
theorem crcByte_xor (r s a b : Nat) : crcByte (r ^^^ s) (a ^^^ b) = crcByte r a ^^^ crcByte s b := by
  unfold crcByte
  rw [xor4, crcBits_xor]
theorem crcL_xor : ∀ (L M : List Nat) (r s : Nat), L.length = M.length → crcL (r ^^^ s) (List.zipWith (· ^^^ ·) L M) = crcL r L ^^^ crcL s M
  | [], [], r, s, _ => rfl
  | a :: L, b :: M, r, s, h => by
    simp only [crcL, List.zipWith_cons_cons, List.foldl_cons]
    have := crcL_xor L M (crcByte r a) (crcByte s b) (by simpa using h)
    rw [← crcByte_xor] at this
    exact this
  | [], _ :: _, _, _, h => by simp at h
  | _ :: _, [], _, _, h => by simp at h
/-- What turning bytes does to the sum: the same whatever the bytes. -/
theorem crc_turned (L M : List Nat) (h : L.length = M.length) : crc L ^^^ crc (List.zipWith (· ^^^ ·) L M) = crcL 0 M := by
  have := crcL_xor L M 4294967295 0 h
  rw [Nat.xor_zero] at this
  unfold crc
  rw [this, xor4, Nat.xor_self 4294967295, Nat.xor_zero, ← Nat.xor_assoc, Nat.xor_self, Nat.zero_xor]
theorem crcStep_zero {r : Nat} (h : r < 4294967296) (h0 : crcStep r = 0) : r = 0 := by
  unfold crcStep at h0
  split at h0
  · have h1 : (r / 2) ^^^ 3988292384 = 0 := h0
    have h2 : r / 2 = 3988292384 := by
      have := congrArg (· ^^^ 3988292384) h1
      simpa [Nat.xor_assoc] using this
    omega
  · omega
theorem crcBits_zero {k r : Nat} (h : r < 4294967296) (h0 : crcBits k r = 0) : r = 0 := by
  induction k with
  | zero => exact h0
  | succ k ih => exact ih (crcStep_zero (crcBits_lt h) h0)
theorem crcBits_none (k : Nat) : crcBits k 0 = 0 := by
  induction k with
  | zero => rfl
  | succ k ih => simp [crcBits, ih, crcStep]
end Go.Proofs.Ytibbibpfnpjjdaa

/- The contracts of frame.Sum and of the document's own. -/
namespace Go.Proofs.Ytibbibpfnpjjdaa
open Go.RowKit
set_option linter.unusedSimpArgs false
set_option linter.unusedVariables false

theorem crc_next {L : List Nat} {k x : Nat} (h : L[k]? = some x) : crcL 4294967295 (L.take (k + 1)) = crcByte (crcL 4294967295 (L.take k)) x := by
  rw [take_snoc_ L k x h, crcL_snoc]
theorem step_prog2 (r : Nat) (h : r < 4294967296) :
    bits .xor .u32 ((r : Int) / 2) (bits .and .u32 3988292384 (-bits .and .u32 (r : Int) 1 % 4294967296)) = ((crcStep r : Nat) : Int) := by
  have := step_prog r h
  rwa [IntKind.wrap_u32', Int.zero_sub] at this
theorem ret_u32 {a b : Int} (h : a = b) : Ending.returned (.int .u32 a) = .returned (.int .u32 b) := by rw [h]

set_option maxRecDepth 100000 in
set_option maxHeartbeats 1000000 in
theorem sum_any (A : Option Addr) (n c : Nat) (L : List Nat) (w : World) (h : RdS w w.heap.size 1 A n c (rowsV f8 L)) (hb : ∀ b ∈ L, b < 256) (hn : n ≤ maxLen) :
    Calls Try.prog 60 #[.slice A n c] w fun e w' => e = .returned (.int .u32 ((crc L : Nat) : Int)) ∧ w = w' := by
  have hl := h.rlen f8_len (by decide)
  unfold maxLen at hn
  obtain rfl := hl
  have HR := Lib.hid h
  have HBy := Lib.hid hb
  clear h hb
  go_enter Try.func60, Try.ntmps60
  go_wp2
  go_loop [3, 8] (fun r i => ∃ k R : Nat, k ≤ L.length ∧ i = .int .i64 k ∧ r = .int .u32 (R : Int) ∧ RowKit.Hid (R = crcL 4294967295 (L.take k))) (fun _ i => L.length - (intOf i).toNat)
  case atStart => exact ⟨0, 4294967295, Nat.zero_le _, rfl, rfl, Lib.hid rfl⟩
  case round =>
    obtain ⟨k, R, hk, rfl, rfl, hR⟩ := hrel
    have HR32 : RowKit.Hid (R < 4294967296) := Lib.hid (by rw [hR.out]; exact crcL_lt (by omega) (fun b hb => HBy.out b (List.mem_of_mem_take hb)))
    by_cases hlt : k < L.length
    · have hx0 : L[k]? = some (L[k]'hlt) := List.getElem?_eq_getElem _
      obtain ⟨x, gx⟩ : ∃ x, L[k]'hlt = x := ⟨_, rfl⟩
      rw [gx] at hx0
      have hx1 := HBy.out x (List.mem_of_getElem? hx0)
      have HX := Lib.hid hx0
      obtain ⟨b, off, rfl, hbB, hpl⟩ := HR.out.place f8_len (by decide) (by omega)
      have c0 := hpl k x hx0 0 (.int .u8 (x : Int)) rfl
      rw [Addr.add_lit] at c0
      simp only [Nat.add_zero, Nat.mul_one] at c0
      have hxor := u32_xor_nat R x HR32.out (by omega)
      have hcv : IntKind.u32.wrap (x : Int) = (x : Int) := by rw [IntKind.wrap_u32']; omega
      have HR1 : RowKit.Hid (R ^^^ x < 4294967296) := Lib.hid (Nat.xor_lt_two_pow (n := 32) HR32.out (by omega))
      obtain ⟨R1, gR1⟩ : ∃ y, R ^^^ x = y := ⟨_, rfl⟩
      rw [gR1] at hxor HR1
      have HG := Lib.hid gR1
      clear gx hx0 hpl hbB gR1
      go_wp2
      clear hxor hcv c0
      go_loop [3, 16] (fun r i => ∃ j S : Nat, j ≤ 8 ∧ i = .int .i64 j ∧ r = .int .u32 (S : Int) ∧ RowKit.Hid (S = crcBits j R1)) (fun _ i => 8 - (intOf i).toNat)
      case atStart => exact ⟨0, R1, by omega, rfl, rfl, Lib.hid rfl⟩
      case round =>
        obtain ⟨j, S, hj, rfl, rfl, hS⟩ := hrel
        have HS32 : S < 4294967296 := by rw [hS.out]; exact crcBits_lt HR1.out
        by_cases hj8 : j < 8
        · go_wp2
          go_round
          case rel => exact ⟨j + 1, crcStep S, by omega, by go_num, by rw [step_prog2 S HS32], Lib.hid (by rw [hS.out]; rfl)⟩
          case measure => simp [intOf]; omega
        · obtain rfl : j = 8 := by omega
          go_wp2
          go_round
          case rel => exact ⟨k + 1, S, by omega, by go_num, rfl, Lib.hid (by rw [hS.out, crc_next HX.out, ← hR.out, ← HG.out]; rfl)⟩
          case measure => simp [intOf]; omega
    · have hfull : L.take k = L := List.take_of_length_le (by omega)
      have hxor := u32_xor_nat 4294967295 R (by omega) HR32.out
      have hfin : RowKit.Hid (4294967295 ^^^ R = crc L) := Lib.hid (by rw [hR.out, hfull, Nat.xor_comm]; rfl)
      go_wp2
      go_ret
      exact ⟨by rw [← hfin.out]; first | rfl | exact ret_u32 hxor, rfl⟩
set_option maxRecDepth 100000 in
set_option maxHeartbeats 1000000 in
theorem rsum_any (A : Option Addr) (n c : Nat) (L : List Nat) (w : World) (h : RdS w w.heap.size 1 A n c (rowsV f8 L)) (hb : ∀ b ∈ L, b < 256) (hn : n ≤ maxLen) :
    Calls Try.prog 65 #[.slice A n c] w fun e w' => e = .returned (.int .u32 ((crc L : Nat) : Int)) ∧ w = w' := by
  have hl := h.rlen f8_len (by decide)
  unfold maxLen at hn
  obtain rfl := hl
  have HR := Lib.hid h
  have HBy := Lib.hid hb
  clear h hb
  go_enter Try.func65, Try.ntmps65
  go_wp2
  go_loop [3, 4] (fun r i => ∃ k R : Nat, k ≤ L.length ∧ i = .int .i64 k ∧ r = .int .u32 (R : Int) ∧ RowKit.Hid (R = crcL 4294967295 (L.take k))) (fun _ i => L.length - (intOf i).toNat)
  case atStart => exact ⟨0, 4294967295, Nat.zero_le _, rfl, rfl, Lib.hid rfl⟩
  case round =>
    obtain ⟨k, R, hk, rfl, rfl, hR⟩ := hrel
    have HR32 : RowKit.Hid (R < 4294967296) := Lib.hid (by rw [hR.out]; exact crcL_lt (by omega) (fun b hb => HBy.out b (List.mem_of_mem_take hb)))
    by_cases hlt : k < L.length
    · have hx0 : L[k]? = some (L[k]'hlt) := List.getElem?_eq_getElem _
      obtain ⟨x, gx⟩ : ∃ x, L[k]'hlt = x := ⟨_, rfl⟩
      rw [gx] at hx0
      have hx1 := HBy.out x (List.mem_of_getElem? hx0)
      have HX := Lib.hid hx0
      obtain ⟨b, off, rfl, hbB, hpl⟩ := HR.out.place f8_len (by decide) (by omega)
      have c0 := hpl k x hx0 0 (.int .u8 (x : Int)) rfl
      rw [Addr.add_lit] at c0
      simp only [Nat.add_zero, Nat.mul_one] at c0
      have hxor := u32_xor_nat R x HR32.out (by omega)
      have hcv : IntKind.u32.wrap (x : Int) = (x : Int) := by rw [IntKind.wrap_u32']; omega
      have HR1 : RowKit.Hid (R ^^^ x < 4294967296) := Lib.hid (Nat.xor_lt_two_pow (n := 32) HR32.out (by omega))
      obtain ⟨R1, gR1⟩ : ∃ y, R ^^^ x = y := ⟨_, rfl⟩
      rw [gR1] at hxor HR1
      have HG := Lib.hid gR1
      clear gx hx0 hpl hbB gR1
      go_wp2
      clear hxor hcv c0
      go_loop [3, 5] (fun r i => ∃ j S : Nat, j ≤ 8 ∧ i = .int .i64 j ∧ r = .int .u32 (S : Int) ∧ RowKit.Hid (S = crcBits j R1)) (fun _ i => 8 - (intOf i).toNat)
      case atStart => exact ⟨0, R1, by omega, rfl, rfl, Lib.hid rfl⟩
      case round =>
        obtain ⟨j, S, hj, rfl, rfl, hS⟩ := hrel
        have HS32 : S < 4294967296 := by rw [hS.out]; exact crcBits_lt HR1.out
        by_cases hj8 : j < 8
        · rcases Nat.mod_two_eq_zero_or_one S with h2 | h2
          · have hm : ((S : Int) % 2) = 0 := by omega
            have hm2 : ((S : Int).tmod 2) = 0 := by rw [Int.tmod_eq_emod_of_nonneg (by omega)]; omega
            obtain ⟨H, gH⟩ : ∃ H, S / 2 = H := ⟨_, rfl⟩
            have hd2 : ((S : Int).tdiv 2) = (H : Int) := by rw [Int.tdiv_eq_ediv_of_nonneg (by omega)]; omega
            have hd3 : IntKind.u32.wrap (H : Int) = (H : Int) := by rw [IntKind.wrap_u32']; omega
            have HC : RowKit.Hid (crcStep S = H) := Lib.hid (by unfold crcStep; rw [if_neg (by omega), gH])
            clear h2 gH
            go_wp2
            go_round
            case rel => exact ⟨j + 1, crcStep S, by omega, by go_num, by rw [HC.out], Lib.hid (by rw [hS.out]; rfl)⟩
            case measure => simp [intOf]; omega
          · have hm : ((S : Int) % 2) = 1 := by omega
            have hm2 : ((S : Int).tmod 2) = 1 := by rw [Int.tmod_eq_emod_of_nonneg (by omega)]; omega
            obtain ⟨H, gH⟩ : ∃ H, S / 2 = H := ⟨_, rfl⟩
            have hd2 : ((S : Int).tdiv 2) = (H : Int) := by rw [Int.tdiv_eq_ediv_of_nonneg (by omega)]; omega
            have hd3 : IntKind.u32.wrap (H : Int) = (H : Int) := by rw [IntKind.wrap_u32']; omega
            have HH : RowKit.Hid (H < 4294967296) := Lib.hid (by omega)
            have HC : RowKit.Hid (crcStep S = H ^^^ 3988292384) := Lib.hid (by unfold crcStep; rw [if_pos (by omega), gH])
            clear h2 gH
            go_wp2
            go_round
            case rel => exact ⟨j + 1, crcStep S, by omega, by go_num, by rw [HC.out, ← u32_xor_nat H 3988292384 HH.out (by omega)]; rfl, Lib.hid (by rw [hS.out]; rfl)⟩
            case measure => simp [intOf]; omega
        · obtain rfl : j = 8 := by omega
          go_wp2
          go_round
          case rel => exact ⟨k + 1, S, by omega, by go_num, rfl, Lib.hid (by rw [hS.out, crc_next HX.out, ← hR.out, ← HG.out]; rfl)⟩
          case measure => simp [intOf]; omega
    · have hfull : L.take k = L := List.take_of_length_le (by omega)
      have hxor := u32_xor_nat R 4294967295 HR32.out (by omega)
      have hfin : RowKit.Hid (R ^^^ 4294967295 = crc L) := Lib.hid (by rw [hR.out, hfull]; rfl)
      go_wp2
      go_ret
      exact ⟨by rw [← hfin.out]; first | rfl | exact ret_u32 hxor, rfl⟩
end Go.Proofs.Ytibbibpfnpjjdaa

/- The contracts of frame.May and of the document's own. -/
namespace Go.Proofs.Ytibbibpfnpjjdaa
open Go.RowKit
set_option linter.unusedSimpArgs false
set_option linter.unusedVariables false

/-- A frame's numbers. -/
structure FrT where
  (k fr tt ep sq ac : Int)
deriving DecidableEq
def frCells (f : FrT) (A : Option Addr) (n c : Nat) : List Value := [.int .i64 f.k, .int .i64 f.fr, .int .i64 f.tt, .int .i64 f.ep, .int .i64 f.sq, .int .i64 f.ac, .slice A n c]
def siteB (s : Int) : Bool := decide (0 ≤ s ∧ s ≤ 8)
def numB (s : Int) : Bool := decide (0 ≤ s ∧ s ≤ 1073741824)
/-- What is wrong with a frame of n bytes. -/
def mayF (f : FrT) (n : Nat) : Int := if 1 ≤ f.k ∧ f.k ≤ 4 ∧ siteB f.fr = true ∧ siteB f.tt = true ∧ ¬ f.fr = f.tt ∧ numB f.ep = true ∧ numB f.sq = true ∧ numB f.ac = true then (if 16384 < n then 3 else 0) else 1
theorem maysite_any (s : Int) (w : World) : Calls Try.prog 58 #[.int .i64 s] w fun e w' => e = .returned (.bool (siteB s)) ∧ w = w' := by
  unfold siteB
  by_cases h1 : 0 ≤ s
  · by_cases h2 : s ≤ 8
    · rw [decide_eq_true ⟨h1, h2⟩]
      go_enter Try.func58, Try.ntmps58
      go_wp2
      go_ret
      exact ⟨rfl, rfl⟩
    · rw [decide_eq_false (fun h => h2 h.2)]
      go_enter Try.func58, Try.ntmps58
      go_wp2
      go_ret
      exact ⟨rfl, rfl⟩
  · rw [decide_eq_false (fun h => h1 h.1)]
    go_enter Try.func58, Try.ntmps58
    go_wp2
    go_ret
    exact ⟨rfl, rfl⟩
theorem maynum_any (s : Int) (w : World) : Calls Try.prog 59 #[.int .i64 s] w fun e w' => e = .returned (.bool (numB s)) ∧ w = w' := by
  unfold numB
  by_cases h1 : 0 ≤ s
  · by_cases h2 : s ≤ 1073741824
    · rw [decide_eq_true ⟨h1, h2⟩]
      go_enter Try.func59, Try.ntmps59
      go_wp2
      go_ret
      exact ⟨rfl, rfl⟩
    · rw [decide_eq_false (fun h => h2 h.2)]
      go_enter Try.func59, Try.ntmps59
      go_wp2
      go_ret
      exact ⟨rfl, rfl⟩
  · rw [decide_eq_false (fun h => h1 h.1)]
    go_enter Try.func59, Try.ntmps59
    go_wp2
    go_ret
    exact ⟨rfl, rfl⟩
theorem counts_any (s : Int) (w : World) : Calls Try.prog 40 #[.int .i64 s] w fun e w' => e = .returned (.bool (numB s)) ∧ w = w' := by
  unfold numB
  by_cases h1 : 0 ≤ s
  · by_cases h2 : s ≤ 1073741824
    · rw [decide_eq_true ⟨h1, h2⟩]
      go_enter Try.func40, Try.ntmps40
      go_wp2
      go_ret
      exact ⟨rfl, rfl⟩
    · rw [decide_eq_false (fun h => h2 h.2)]
      go_enter Try.func40, Try.ntmps40
      go_wp2
      go_ret
      exact ⟨rfl, rfl⟩
  · rw [decide_eq_false (fun h => h1 h.1)]
    go_enter Try.func40, Try.ntmps40
    go_wp2
    go_ret
    exact ⟨rfl, rfl⟩
theorem fm_k1 (f : FrT) (A : Option Addr) (n c : Nat) (w : World) (h_k1 : decide (f.k < 1) = true) : Calls Try.prog 43 #[.agg (frCells f A n c).toArray] w fun e w' => e = .returned (.int .i64 1) ∧ Below w.heap.size w w' := by
  unfold frCells
  go_enter Try.func43, Try.ntmps43
  go_wp2_with (first
    | (go_at_call 58; refine (maysite_any _ _).mono ?_; rintro e w' ⟨rfl, rfl⟩)
    | (go_at_call 59; refine (maynum_any _ _).mono ?_; rintro e w' ⟨rfl, rfl⟩))
  go_ret
  exact ⟨rfl, below1 _ _⟩
theorem fm_k4 (f : FrT) (A : Option Addr) (n c : Nat) (w : World) (h_k1 : decide (f.k < 1) = false) (h_k4 : decide (4 < f.k) = true) : Calls Try.prog 43 #[.agg (frCells f A n c).toArray] w fun e w' => e = .returned (.int .i64 1) ∧ Below w.heap.size w w' := by
  unfold frCells
  go_enter Try.func43, Try.ntmps43
  go_wp2_with (first
    | (go_at_call 58; refine (maysite_any _ _).mono ?_; rintro e w' ⟨rfl, rfl⟩)
    | (go_at_call 59; refine (maynum_any _ _).mono ?_; rintro e w' ⟨rfl, rfl⟩))
  go_ret
  exact ⟨rfl, below1 _ _⟩
theorem fm_fr (f : FrT) (A : Option Addr) (n c : Nat) (w : World) (h_k1 : decide (f.k < 1) = false) (h_k4 : decide (4 < f.k) = false) (h_fr : siteB f.fr = false) : Calls Try.prog 43 #[.agg (frCells f A n c).toArray] w fun e w' => e = .returned (.int .i64 1) ∧ Below w.heap.size w w' := by
  unfold frCells
  go_enter Try.func43, Try.ntmps43
  go_wp2_with (first
    | (go_at_call 58; refine (maysite_any _ _).mono ?_; rintro e w' ⟨rfl, rfl⟩)
    | (go_at_call 59; refine (maynum_any _ _).mono ?_; rintro e w' ⟨rfl, rfl⟩))
  go_ret
  exact ⟨rfl, below1 _ _⟩
theorem fm_tt (f : FrT) (A : Option Addr) (n c : Nat) (w : World) (h_k1 : decide (f.k < 1) = false) (h_k4 : decide (4 < f.k) = false) (h_fr : siteB f.fr = true) (h_tt : siteB f.tt = false) : Calls Try.prog 43 #[.agg (frCells f A n c).toArray] w fun e w' => e = .returned (.int .i64 1) ∧ Below w.heap.size w w' := by
  unfold frCells
  go_enter Try.func43, Try.ntmps43
  go_wp2_with (first
    | (go_at_call 58; refine (maysite_any _ _).mono ?_; rintro e w' ⟨rfl, rfl⟩)
    | (go_at_call 59; refine (maynum_any _ _).mono ?_; rintro e w' ⟨rfl, rfl⟩))
  go_ret
  exact ⟨rfl, below1 _ _⟩
theorem fm_eq (f : FrT) (A : Option Addr) (n c : Nat) (w : World) (h_k1 : decide (f.k < 1) = false) (h_k4 : decide (4 < f.k) = false) (h_fr : siteB f.fr = true) (h_tt : siteB f.tt = true) (h_eq : (f.fr == f.tt) = true) : Calls Try.prog 43 #[.agg (frCells f A n c).toArray] w fun e w' => e = .returned (.int .i64 1) ∧ Below w.heap.size w w' := by
  unfold frCells
  go_enter Try.func43, Try.ntmps43
  go_wp2_with (first
    | (go_at_call 58; refine (maysite_any _ _).mono ?_; rintro e w' ⟨rfl, rfl⟩)
    | (go_at_call 59; refine (maynum_any _ _).mono ?_; rintro e w' ⟨rfl, rfl⟩))
  go_ret
  exact ⟨rfl, below1 _ _⟩
theorem fm_ep (f : FrT) (A : Option Addr) (n c : Nat) (w : World) (h_k1 : decide (f.k < 1) = false) (h_k4 : decide (4 < f.k) = false) (h_fr : siteB f.fr = true) (h_tt : siteB f.tt = true) (h_eq : (f.fr == f.tt) = false) (h_ep : numB f.ep = false) : Calls Try.prog 43 #[.agg (frCells f A n c).toArray] w fun e w' => e = .returned (.int .i64 1) ∧ Below w.heap.size w w' := by
  unfold frCells
  go_enter Try.func43, Try.ntmps43
  go_wp2_with (first
    | (go_at_call 58; refine (maysite_any _ _).mono ?_; rintro e w' ⟨rfl, rfl⟩)
    | (go_at_call 59; refine (maynum_any _ _).mono ?_; rintro e w' ⟨rfl, rfl⟩))
  go_ret
  exact ⟨rfl, below1 _ _⟩
theorem fm_sq (f : FrT) (A : Option Addr) (n c : Nat) (w : World) (h_k1 : decide (f.k < 1) = false) (h_k4 : decide (4 < f.k) = false) (h_fr : siteB f.fr = true) (h_tt : siteB f.tt = true) (h_eq : (f.fr == f.tt) = false) (h_ep : numB f.ep = true) (h_sq : numB f.sq = false) : Calls Try.prog 43 #[.agg (frCells f A n c).toArray] w fun e w' => e = .returned (.int .i64 1) ∧ Below w.heap.size w w' := by
  unfold frCells
  go_enter Try.func43, Try.ntmps43
  go_wp2_with (first
    | (go_at_call 58; refine (maysite_any _ _).mono ?_; rintro e w' ⟨rfl, rfl⟩)
    | (go_at_call 59; refine (maynum_any _ _).mono ?_; rintro e w' ⟨rfl, rfl⟩))
  go_ret
  exact ⟨rfl, below1 _ _⟩
theorem fm_ac (f : FrT) (A : Option Addr) (n c : Nat) (w : World) (h_k1 : decide (f.k < 1) = false) (h_k4 : decide (4 < f.k) = false) (h_fr : siteB f.fr = true) (h_tt : siteB f.tt = true) (h_eq : (f.fr == f.tt) = false) (h_ep : numB f.ep = true) (h_sq : numB f.sq = true) (h_ac : numB f.ac = false) : Calls Try.prog 43 #[.agg (frCells f A n c).toArray] w fun e w' => e = .returned (.int .i64 1) ∧ Below w.heap.size w w' := by
  unfold frCells
  go_enter Try.func43, Try.ntmps43
  go_wp2_with (first
    | (go_at_call 58; refine (maysite_any _ _).mono ?_; rintro e w' ⟨rfl, rfl⟩)
    | (go_at_call 59; refine (maynum_any _ _).mono ?_; rintro e w' ⟨rfl, rfl⟩))
  go_ret
  exact ⟨rfl, below1 _ _⟩
theorem fm_n (f : FrT) (A : Option Addr) (n c : Nat) (w : World) (h_k1 : decide (f.k < 1) = false) (h_k4 : decide (4 < f.k) = false) (h_fr : siteB f.fr = true) (h_tt : siteB f.tt = true) (h_eq : (f.fr == f.tt) = false) (h_ep : numB f.ep = true) (h_sq : numB f.sq = true) (h_ac : numB f.ac = true) (h_n : decide ((16384 : Int) < (n : Int)) = true) : Calls Try.prog 43 #[.agg (frCells f A n c).toArray] w fun e w' => e = .returned (.int .i64 3) ∧ Below w.heap.size w w' := by
  unfold frCells
  go_enter Try.func43, Try.ntmps43
  go_wp2_with (first
    | (go_at_call 58; refine (maysite_any _ _).mono ?_; rintro e w' ⟨rfl, rfl⟩)
    | (go_at_call 59; refine (maynum_any _ _).mono ?_; rintro e w' ⟨rfl, rfl⟩))
  go_ret
  exact ⟨rfl, below1 _ _⟩
theorem fm_ok (f : FrT) (A : Option Addr) (n c : Nat) (w : World) (h_k1 : decide (f.k < 1) = false) (h_k4 : decide (4 < f.k) = false) (h_fr : siteB f.fr = true) (h_tt : siteB f.tt = true) (h_eq : (f.fr == f.tt) = false) (h_ep : numB f.ep = true) (h_sq : numB f.sq = true) (h_ac : numB f.ac = true) (h_n : decide ((16384 : Int) < (n : Int)) = false) : Calls Try.prog 43 #[.agg (frCells f A n c).toArray] w fun e w' => e = .returned (.int .i64 0) ∧ Below w.heap.size w w' := by
  unfold frCells
  go_enter Try.func43, Try.ntmps43
  go_wp2_with (first
    | (go_at_call 58; refine (maysite_any _ _).mono ?_; rintro e w' ⟨rfl, rfl⟩)
    | (go_at_call 59; refine (maynum_any _ _).mono ?_; rintro e w' ⟨rfl, rfl⟩))
  go_ret
  exact ⟨rfl, below1 _ _⟩
theorem rfm_k1 (f : FrT) (A : Option Addr) (n c : Nat) (w : World) (h_k1 : decide (f.k < 1) = true) : Calls Try.prog 22 #[.agg (frCells f A n c).toArray] w fun e w' => e = .returned (.int .i64 1) ∧ Below w.heap.size w w' := by
  unfold frCells
  go_enter Try.func22, Try.ntmps22
  go_wp2_with (first
    | (go_at_call 40; refine (counts_any _ _).mono ?_; rintro e w' ⟨rfl, rfl⟩))
  go_ret
  exact ⟨rfl, below1 _ _⟩
theorem rfm_k4 (f : FrT) (A : Option Addr) (n c : Nat) (w : World) (h_k1 : decide (f.k < 1) = false) (h_k4 : decide (4 < f.k) = true) : Calls Try.prog 22 #[.agg (frCells f A n c).toArray] w fun e w' => e = .returned (.int .i64 1) ∧ Below w.heap.size w w' := by
  unfold frCells
  go_enter Try.func22, Try.ntmps22
  go_wp2_with (first
    | (go_at_call 40; refine (counts_any _ _).mono ?_; rintro e w' ⟨rfl, rfl⟩))
  go_ret
  exact ⟨rfl, below1 _ _⟩
theorem rfm_f0 (f : FrT) (A : Option Addr) (n c : Nat) (w : World) (h_k1 : decide (f.k < 1) = false) (h_k4 : decide (4 < f.k) = false) (h_f0 : decide (f.fr < 0) = true) : Calls Try.prog 22 #[.agg (frCells f A n c).toArray] w fun e w' => e = .returned (.int .i64 1) ∧ Below w.heap.size w w' := by
  unfold frCells
  go_enter Try.func22, Try.ntmps22
  go_wp2_with (first
    | (go_at_call 40; refine (counts_any _ _).mono ?_; rintro e w' ⟨rfl, rfl⟩))
  go_ret
  exact ⟨rfl, below1 _ _⟩
theorem rfm_f8 (f : FrT) (A : Option Addr) (n c : Nat) (w : World) (h_k1 : decide (f.k < 1) = false) (h_k4 : decide (4 < f.k) = false) (h_f0 : decide (f.fr < 0) = false) (h_f8 : decide (8 < f.fr) = true) : Calls Try.prog 22 #[.agg (frCells f A n c).toArray] w fun e w' => e = .returned (.int .i64 1) ∧ Below w.heap.size w w' := by
  unfold frCells
  go_enter Try.func22, Try.ntmps22
  go_wp2_with (first
    | (go_at_call 40; refine (counts_any _ _).mono ?_; rintro e w' ⟨rfl, rfl⟩))
  go_ret
  exact ⟨rfl, below1 _ _⟩
theorem rfm_t0 (f : FrT) (A : Option Addr) (n c : Nat) (w : World) (h_k1 : decide (f.k < 1) = false) (h_k4 : decide (4 < f.k) = false) (h_f0 : decide (f.fr < 0) = false) (h_f8 : decide (8 < f.fr) = false) (h_t0 : decide (f.tt < 0) = true) : Calls Try.prog 22 #[.agg (frCells f A n c).toArray] w fun e w' => e = .returned (.int .i64 1) ∧ Below w.heap.size w w' := by
  unfold frCells
  go_enter Try.func22, Try.ntmps22
  go_wp2_with (first
    | (go_at_call 40; refine (counts_any _ _).mono ?_; rintro e w' ⟨rfl, rfl⟩))
  go_ret
  exact ⟨rfl, below1 _ _⟩
theorem rfm_t8 (f : FrT) (A : Option Addr) (n c : Nat) (w : World) (h_k1 : decide (f.k < 1) = false) (h_k4 : decide (4 < f.k) = false) (h_f0 : decide (f.fr < 0) = false) (h_f8 : decide (8 < f.fr) = false) (h_t0 : decide (f.tt < 0) = false) (h_t8 : decide (8 < f.tt) = true) : Calls Try.prog 22 #[.agg (frCells f A n c).toArray] w fun e w' => e = .returned (.int .i64 1) ∧ Below w.heap.size w w' := by
  unfold frCells
  go_enter Try.func22, Try.ntmps22
  go_wp2_with (first
    | (go_at_call 40; refine (counts_any _ _).mono ?_; rintro e w' ⟨rfl, rfl⟩))
  go_ret
  exact ⟨rfl, below1 _ _⟩
theorem rfm_eq (f : FrT) (A : Option Addr) (n c : Nat) (w : World) (h_k1 : decide (f.k < 1) = false) (h_k4 : decide (4 < f.k) = false) (h_f0 : decide (f.fr < 0) = false) (h_f8 : decide (8 < f.fr) = false) (h_t0 : decide (f.tt < 0) = false) (h_t8 : decide (8 < f.tt) = false) (h_eq : (f.fr == f.tt) = true) : Calls Try.prog 22 #[.agg (frCells f A n c).toArray] w fun e w' => e = .returned (.int .i64 1) ∧ Below w.heap.size w w' := by
  unfold frCells
  go_enter Try.func22, Try.ntmps22
  go_wp2_with (first
    | (go_at_call 40; refine (counts_any _ _).mono ?_; rintro e w' ⟨rfl, rfl⟩))
  go_ret
  exact ⟨rfl, below1 _ _⟩
theorem rfm_ep (f : FrT) (A : Option Addr) (n c : Nat) (w : World) (h_k1 : decide (f.k < 1) = false) (h_k4 : decide (4 < f.k) = false) (h_f0 : decide (f.fr < 0) = false) (h_f8 : decide (8 < f.fr) = false) (h_t0 : decide (f.tt < 0) = false) (h_t8 : decide (8 < f.tt) = false) (h_eq : (f.fr == f.tt) = false) (h_ep : numB f.ep = false) : Calls Try.prog 22 #[.agg (frCells f A n c).toArray] w fun e w' => e = .returned (.int .i64 1) ∧ Below w.heap.size w w' := by
  unfold frCells
  go_enter Try.func22, Try.ntmps22
  go_wp2_with (first
    | (go_at_call 40; refine (counts_any _ _).mono ?_; rintro e w' ⟨rfl, rfl⟩))
  go_ret
  exact ⟨rfl, below1 _ _⟩
theorem rfm_sq (f : FrT) (A : Option Addr) (n c : Nat) (w : World) (h_k1 : decide (f.k < 1) = false) (h_k4 : decide (4 < f.k) = false) (h_f0 : decide (f.fr < 0) = false) (h_f8 : decide (8 < f.fr) = false) (h_t0 : decide (f.tt < 0) = false) (h_t8 : decide (8 < f.tt) = false) (h_eq : (f.fr == f.tt) = false) (h_ep : numB f.ep = true) (h_sq : numB f.sq = false) : Calls Try.prog 22 #[.agg (frCells f A n c).toArray] w fun e w' => e = .returned (.int .i64 1) ∧ Below w.heap.size w w' := by
  unfold frCells
  go_enter Try.func22, Try.ntmps22
  go_wp2_with (first
    | (go_at_call 40; refine (counts_any _ _).mono ?_; rintro e w' ⟨rfl, rfl⟩))
  go_ret
  exact ⟨rfl, below1 _ _⟩
theorem rfm_ac (f : FrT) (A : Option Addr) (n c : Nat) (w : World) (h_k1 : decide (f.k < 1) = false) (h_k4 : decide (4 < f.k) = false) (h_f0 : decide (f.fr < 0) = false) (h_f8 : decide (8 < f.fr) = false) (h_t0 : decide (f.tt < 0) = false) (h_t8 : decide (8 < f.tt) = false) (h_eq : (f.fr == f.tt) = false) (h_ep : numB f.ep = true) (h_sq : numB f.sq = true) (h_ac : numB f.ac = false) : Calls Try.prog 22 #[.agg (frCells f A n c).toArray] w fun e w' => e = .returned (.int .i64 1) ∧ Below w.heap.size w w' := by
  unfold frCells
  go_enter Try.func22, Try.ntmps22
  go_wp2_with (first
    | (go_at_call 40; refine (counts_any _ _).mono ?_; rintro e w' ⟨rfl, rfl⟩))
  go_ret
  exact ⟨rfl, below1 _ _⟩
theorem rfm_n (f : FrT) (A : Option Addr) (n c : Nat) (w : World) (h_k1 : decide (f.k < 1) = false) (h_k4 : decide (4 < f.k) = false) (h_f0 : decide (f.fr < 0) = false) (h_f8 : decide (8 < f.fr) = false) (h_t0 : decide (f.tt < 0) = false) (h_t8 : decide (8 < f.tt) = false) (h_eq : (f.fr == f.tt) = false) (h_ep : numB f.ep = true) (h_sq : numB f.sq = true) (h_ac : numB f.ac = true) (h_n : decide ((16384 : Int) < (n : Int)) = true) : Calls Try.prog 22 #[.agg (frCells f A n c).toArray] w fun e w' => e = .returned (.int .i64 3) ∧ Below w.heap.size w w' := by
  unfold frCells
  go_enter Try.func22, Try.ntmps22
  go_wp2_with (first
    | (go_at_call 40; refine (counts_any _ _).mono ?_; rintro e w' ⟨rfl, rfl⟩))
  go_ret
  exact ⟨rfl, below1 _ _⟩
theorem rfm_ok (f : FrT) (A : Option Addr) (n c : Nat) (w : World) (h_k1 : decide (f.k < 1) = false) (h_k4 : decide (4 < f.k) = false) (h_f0 : decide (f.fr < 0) = false) (h_f8 : decide (8 < f.fr) = false) (h_t0 : decide (f.tt < 0) = false) (h_t8 : decide (8 < f.tt) = false) (h_eq : (f.fr == f.tt) = false) (h_ep : numB f.ep = true) (h_sq : numB f.sq = true) (h_ac : numB f.ac = true) (h_n : decide ((16384 : Int) < (n : Int)) = false) : Calls Try.prog 22 #[.agg (frCells f A n c).toArray] w fun e w' => e = .returned (.int .i64 0) ∧ Below w.heap.size w w' := by
  unfold frCells
  go_enter Try.func22, Try.ntmps22
  go_wp2_with (first
    | (go_at_call 40; refine (counts_any _ _).mono ?_; rintro e w' ⟨rfl, rfl⟩))
  go_ret
  exact ⟨rfl, below1 _ _⟩
theorem fmay_any (f : FrT) (A : Option Addr) (n c : Nat) (w : World) : Calls Try.prog 43 #[.agg (frCells f A n c).toArray] w fun e w' => e = .returned (.int .i64 (mayF f n)) ∧ Below w.heap.size w w' := by
  have fin : ∀ {b : Int}, (Calls Try.prog 43 #[.agg (frCells f A n c).toArray] w fun e w' => e = .returned (.int .i64 b) ∧ Below w.heap.size w w') → mayF f n = b → Calls Try.prog 43 #[.agg (frCells f A n c).toArray] w fun e w' => e = .returned (.int .i64 (mayF f n)) ∧ Below w.heap.size w w' := fun h e => e ▸ h
  cases h_k1 : decide (f.k < 1)
  rotate_left
  · exact fin (fm_k1 f A n c w h_k1) (by unfold mayF; rw [if_neg]; rintro ⟨q1, q2, q3, q4, q5, q6, q7, q8⟩; first | (simp_all; done) | (simp_all; omega) | (simp_all [siteB]; done) | (simp_all [siteB]; omega))
  cases h_k4 : decide (4 < f.k)
  rotate_left
  · exact fin (fm_k4 f A n c w h_k1 h_k4) (by unfold mayF; rw [if_neg]; rintro ⟨q1, q2, q3, q4, q5, q6, q7, q8⟩; first | (simp_all; done) | (simp_all; omega) | (simp_all [siteB]; done) | (simp_all [siteB]; omega))
  cases h_fr : siteB f.fr
  · exact fin (fm_fr f A n c w h_k1 h_k4 h_fr) (by unfold mayF; rw [if_neg]; rintro ⟨q1, q2, q3, q4, q5, q6, q7, q8⟩; first | (simp_all; done) | (simp_all; omega) | (simp_all [siteB]; done) | (simp_all [siteB]; omega))
  cases h_tt : siteB f.tt
  · exact fin (fm_tt f A n c w h_k1 h_k4 h_fr h_tt) (by unfold mayF; rw [if_neg]; rintro ⟨q1, q2, q3, q4, q5, q6, q7, q8⟩; first | (simp_all; done) | (simp_all; omega) | (simp_all [siteB]; done) | (simp_all [siteB]; omega))
  cases h_eq : (f.fr == f.tt)
  rotate_left
  · exact fin (fm_eq f A n c w h_k1 h_k4 h_fr h_tt h_eq) (by unfold mayF; rw [if_neg]; rintro ⟨q1, q2, q3, q4, q5, q6, q7, q8⟩; first | (simp_all; done) | (simp_all; omega) | (simp_all [siteB]; done) | (simp_all [siteB]; omega))
  cases h_ep : numB f.ep
  · exact fin (fm_ep f A n c w h_k1 h_k4 h_fr h_tt h_eq h_ep) (by unfold mayF; rw [if_neg]; rintro ⟨q1, q2, q3, q4, q5, q6, q7, q8⟩; first | (simp_all; done) | (simp_all; omega) | (simp_all [siteB]; done) | (simp_all [siteB]; omega))
  cases h_sq : numB f.sq
  · exact fin (fm_sq f A n c w h_k1 h_k4 h_fr h_tt h_eq h_ep h_sq) (by unfold mayF; rw [if_neg]; rintro ⟨q1, q2, q3, q4, q5, q6, q7, q8⟩; first | (simp_all; done) | (simp_all; omega) | (simp_all [siteB]; done) | (simp_all [siteB]; omega))
  cases h_ac : numB f.ac
  · exact fin (fm_ac f A n c w h_k1 h_k4 h_fr h_tt h_eq h_ep h_sq h_ac) (by unfold mayF; rw [if_neg]; rintro ⟨q1, q2, q3, q4, q5, q6, q7, q8⟩; first | (simp_all; done) | (simp_all; omega) | (simp_all [siteB]; done) | (simp_all [siteB]; omega))
  cases h_n : decide ((16384 : Int) < (n : Int))
  rotate_left
  · exact fin (fm_n f A n c w h_k1 h_k4 h_fr h_tt h_eq h_ep h_sq h_ac h_n) (by unfold mayF; rw [if_pos (by refine ⟨?_, ?_, ?_, ?_, ?_, ?_, ?_, ?_⟩ <;> simp_all [siteB] <;> omega), if_pos (by have := of_decide_eq_true h_n; omega)])
  exact fin (fm_ok f A n c w h_k1 h_k4 h_fr h_tt h_eq h_ep h_sq h_ac h_n) (by unfold mayF; rw [if_pos (by refine ⟨?_, ?_, ?_, ?_, ?_, ?_, ?_, ?_⟩ <;> simp_all [siteB] <;> omega), if_neg (by have := of_decide_eq_false h_n; omega)])

theorem rfmay_any (f : FrT) (A : Option Addr) (n c : Nat) (w : World) : Calls Try.prog 22 #[.agg (frCells f A n c).toArray] w fun e w' => e = .returned (.int .i64 (mayF f n)) ∧ Below w.heap.size w w' := by
  have fin : ∀ {b : Int}, (Calls Try.prog 22 #[.agg (frCells f A n c).toArray] w fun e w' => e = .returned (.int .i64 b) ∧ Below w.heap.size w w') → mayF f n = b → Calls Try.prog 22 #[.agg (frCells f A n c).toArray] w fun e w' => e = .returned (.int .i64 (mayF f n)) ∧ Below w.heap.size w w' := fun h e => e ▸ h
  cases h_k1 : decide (f.k < 1)
  rotate_left
  · exact fin (rfm_k1 f A n c w h_k1) (by unfold mayF; rw [if_neg]; rintro ⟨q1, q2, q3, q4, q5, q6, q7, q8⟩; first | (simp_all; done) | (simp_all; omega) | (simp_all [siteB]; done) | (simp_all [siteB]; omega))
  cases h_k4 : decide (4 < f.k)
  rotate_left
  · exact fin (rfm_k4 f A n c w h_k1 h_k4) (by unfold mayF; rw [if_neg]; rintro ⟨q1, q2, q3, q4, q5, q6, q7, q8⟩; first | (simp_all; done) | (simp_all; omega) | (simp_all [siteB]; done) | (simp_all [siteB]; omega))
  cases h_f0 : decide (f.fr < 0)
  rotate_left
  · exact fin (rfm_f0 f A n c w h_k1 h_k4 h_f0) (by unfold mayF; rw [if_neg]; rintro ⟨q1, q2, q3, q4, q5, q6, q7, q8⟩; first | (simp_all; done) | (simp_all; omega) | (simp_all [siteB]; done) | (simp_all [siteB]; omega))
  cases h_f8 : decide (8 < f.fr)
  rotate_left
  · exact fin (rfm_f8 f A n c w h_k1 h_k4 h_f0 h_f8) (by unfold mayF; rw [if_neg]; rintro ⟨q1, q2, q3, q4, q5, q6, q7, q8⟩; first | (simp_all; done) | (simp_all; omega) | (simp_all [siteB]; done) | (simp_all [siteB]; omega))
  cases h_t0 : decide (f.tt < 0)
  rotate_left
  · exact fin (rfm_t0 f A n c w h_k1 h_k4 h_f0 h_f8 h_t0) (by unfold mayF; rw [if_neg]; rintro ⟨q1, q2, q3, q4, q5, q6, q7, q8⟩; first | (simp_all; done) | (simp_all; omega) | (simp_all [siteB]; done) | (simp_all [siteB]; omega))
  cases h_t8 : decide (8 < f.tt)
  rotate_left
  · exact fin (rfm_t8 f A n c w h_k1 h_k4 h_f0 h_f8 h_t0 h_t8) (by unfold mayF; rw [if_neg]; rintro ⟨q1, q2, q3, q4, q5, q6, q7, q8⟩; first | (simp_all; done) | (simp_all; omega) | (simp_all [siteB]; done) | (simp_all [siteB]; omega))
  cases h_eq : (f.fr == f.tt)
  rotate_left
  · exact fin (rfm_eq f A n c w h_k1 h_k4 h_f0 h_f8 h_t0 h_t8 h_eq) (by unfold mayF; rw [if_neg]; rintro ⟨q1, q2, q3, q4, q5, q6, q7, q8⟩; first | (simp_all; done) | (simp_all; omega) | (simp_all [siteB]; done) | (simp_all [siteB]; omega))
  cases h_ep : numB f.ep
  · exact fin (rfm_ep f A n c w h_k1 h_k4 h_f0 h_f8 h_t0 h_t8 h_eq h_ep) (by unfold mayF; rw [if_neg]; rintro ⟨q1, q2, q3, q4, q5, q6, q7, q8⟩; first | (simp_all; done) | (simp_all; omega) | (simp_all [siteB]; done) | (simp_all [siteB]; omega))
  cases h_sq : numB f.sq
  · exact fin (rfm_sq f A n c w h_k1 h_k4 h_f0 h_f8 h_t0 h_t8 h_eq h_ep h_sq) (by unfold mayF; rw [if_neg]; rintro ⟨q1, q2, q3, q4, q5, q6, q7, q8⟩; first | (simp_all; done) | (simp_all; omega) | (simp_all [siteB]; done) | (simp_all [siteB]; omega))
  cases h_ac : numB f.ac
  · exact fin (rfm_ac f A n c w h_k1 h_k4 h_f0 h_f8 h_t0 h_t8 h_eq h_ep h_sq h_ac) (by unfold mayF; rw [if_neg]; rintro ⟨q1, q2, q3, q4, q5, q6, q7, q8⟩; first | (simp_all; done) | (simp_all; omega) | (simp_all [siteB]; done) | (simp_all [siteB]; omega))
  cases h_n : decide ((16384 : Int) < (n : Int))
  rotate_left
  · exact fin (rfm_n f A n c w h_k1 h_k4 h_f0 h_f8 h_t0 h_t8 h_eq h_ep h_sq h_ac h_n) (by unfold mayF; rw [if_pos (by refine ⟨?_, ?_, ?_, ?_, ?_, ?_, ?_, ?_⟩ <;> simp_all [siteB] <;> omega), if_pos (by have := of_decide_eq_true h_n; omega)])
  exact fin (rfm_ok f A n c w h_k1 h_k4 h_f0 h_f8 h_t0 h_t8 h_eq h_ep h_sq h_ac h_n) (by unfold mayF; rw [if_pos (by refine ⟨?_, ?_, ?_, ?_, ?_, ?_, ?_, ?_⟩ <;> simp_all [siteB] <;> omega), if_neg (by have := of_decide_eq_false h_n; omega)])

end Go.Proofs.Ytibbibpfnpjjdaa

/- The contract of frame.sumBytes. -/
namespace Go.Proofs.Ytibbibpfnpjjdaa
open Go.RowKit
set_option linter.unusedSimpArgs false
set_option linter.unusedVariables false

/-- A number's four bytes, the lowest first. -/
def le4 (s : Nat) : List Nat := [s % 256, s / 256 % 256, s / 65536 % 256, s / 16777216 % 256]
/-- The first j of them, and noughts. -/
def le4z (s j : Nat) : List Nat := (le4 s).take j ++ List.replicate (4 - j) 0

theorem make4 (W : World) : (Instr.makeSlice 32 (.int .i64 4) (.int .i64 4)).run Try.prog W = .ok (.slice (some ⟨W.heap.size, 0, none⟩) 4 4) (W.alloc (.cells #[.int .u8 0, .int .u8 0, .int .u8 0, .int .u8 0] 5)) := by
  obtain ⟨i0, hi, hz0, hz1, hz2⟩ := info_parts_ info_u8
  have := run_make (P := Try.prog) W 32 5 i0 _ Try.underlying32 hi hz0 .i64 .i64 4 4 (by omega) (by omega) (by rw [hz2]; omega) (by omega)
  rw [hz1, show madeCells (Value.int .u8 0).cells (Int.toNat 4 * 1) = #[.int .u8 0, .int .u8 0, .int .u8 0, .int .u8 0] from by simp [madeCells, Array.range, Value.cells]; first | done | rfl | kernel_rfl] at this
  exact this

set_option maxRecDepth 100000 in
set_option maxHeartbeats 1000000 in
theorem sumbytes_any (A : Option Addr) (n c : Nat) (L : List Nat) (w : World) (h : RdS w w.heap.size 1 A n c (rowsV f8 L)) (hb : ∀ b ∈ L, b < 256) (hn : n ≤ maxLen) :
    Calls Try.prog 44 #[.slice A n c] w fun e w' => ∃ g, e = .returned (.slice (some ⟨g, 0, none⟩) 4 4) ∧ w.heap.size ≤ g ∧ Whole w' g 5 (rowsV f8 (le4 (crc L))) ∧ Below w.heap.size w w' := by
  have HS := Lib.hid (sum_any A n c L w h hb hn)
  obtain ⟨s, gs⟩ : ∃ s, crc L = s := ⟨_, rfl⟩
  have hs : s < 4294967296 := by rw [← gs]; exact crc_lt hb
  rw [gs] at HS ⊢
  clear h hb hn gs
  go_enter Try.func44, Try.ntmps44
  have hmk := make4
  go_wp2_with (first | (go_at_call 60; refine HS.out.mono ?_; rintro e w' ⟨rfl, rfl⟩))
  clear hmk
  have HW0 : RowKit.Hid (Whole (w.alloc (.cells #[.int .u8 0, .int .u8 0, .int .u8 0, .int .u8 0] 5)) w.heap.size 5 (rowsV f8 (le4z s 0)) ∧ Below w.heap.size w (w.alloc (.cells #[.int .u8 0, .int .u8 0, .int .u8 0, .int .u8 0] 5))) := Lib.hid ⟨Whole.new_ _ _ [_, _, _, _], below1 _ _⟩
  obtain ⟨W1, gW1⟩ : ∃ x, w.alloc (.cells #[.int .u8 0, .int .u8 0, .int .u8 0, .int .u8 0] 5) = x := ⟨_, rfl⟩
  obtain ⟨g, gg⟩ : ∃ x, w.heap.size = x := ⟨_, rfl⟩
  have HG : RowKit.Hid (w.heap.size ≤ g) := Lib.hid (by omega)
  rw [gW1] at HW0 ⊢
  have HW1 : RowKit.Hid (Whole W1 g 5 (rowsV f8 (le4z s 0)) ∧ Below w.heap.size w W1) := Lib.hid ⟨gg ▸ HW0.out.1, HW0.out.2⟩
  rw [gg]
  clear gW1 gg HW0
  go_loopw [11] (fun i wr => ∃ j : Nat, j ≤ 4 ∧ i = .int .i64 j ∧ RowKit.Hid (Whole wr g 5 (rowsV f8 (le4z s j)) ∧ Below w.heap.size w wr)) (fun i _ => 4 - (intOf i).toNat)
  case atStart => exact ⟨0, by omega, rfl, HW1⟩
  case round =>
    rename_i wr _
    clear HW1
    obtain ⟨j, hj, rfl, HW⟩ := hrel
    by_cases hlt : j < 4
    · have hcs : j = 0 ∨ j = 1 ∨ j = 2 ∨ j = 3 := by omega
      rcases hcs with h0 | h0 | h0 | h0
      · clear hlt hj
        obtain rfl : j = 0 := h0
        have c0 := HW.out.1.cell (i := 0) (v := .int .u8 0) rfl
        have z0 := HW.out.1.free 0
        go_wp2
        go_roundw
        case rel => exact ⟨1, by omega, by go_num, Lib.hid ⟨(HW.out.1.set_ 0 _).conv (by simp [le4z, le4, rowsV, f8, List.replicate]; try omega), HW.out.2.setCell (by show w.heap.size ≤ g; exact HG.out) _⟩⟩
        case measure => simp [intOf]
      · clear hlt hj
        obtain rfl : j = 1 := h0
        have c1 := HW.out.1.cell (i := 1) (v := .int .u8 0) rfl
        have z1 := HW.out.1.free 1
        go_wp2
        go_roundw
        case rel => exact ⟨2, by omega, by go_num, Lib.hid ⟨(HW.out.1.set_ 1 _).conv (by simp [le4z, le4, rowsV, f8, List.replicate]; try omega), HW.out.2.setCell (by show w.heap.size ≤ g; exact HG.out) _⟩⟩
        case measure => simp [intOf]
      · clear hlt hj
        obtain rfl : j = 2 := h0
        have c2 := HW.out.1.cell (i := 2) (v := .int .u8 0) rfl
        have z2 := HW.out.1.free 2
        go_wp2
        go_roundw
        case rel => exact ⟨3, by omega, by go_num, Lib.hid ⟨(HW.out.1.set_ 2 _).conv (by simp [le4z, le4, rowsV, f8, List.replicate]; try omega), HW.out.2.setCell (by show w.heap.size ≤ g; exact HG.out) _⟩⟩
        case measure => simp [intOf]
      · clear hlt hj
        obtain rfl : j = 3 := h0
        have c3 := HW.out.1.cell (i := 3) (v := .int .u8 0) rfl
        have z3 := HW.out.1.free 3
        go_wp2
        go_roundw
        case rel => exact ⟨4, by omega, by go_num, Lib.hid ⟨(HW.out.1.set_ 3 _).conv (by simp [le4z, le4, rowsV, f8, List.replicate]; try omega), HW.out.2.setCell (by show w.heap.size ≤ g; exact HG.out) _⟩⟩
        case measure => simp [intOf]
    · obtain rfl : j = 4 := by omega
      go_wp2
      go_ret
      exact ⟨g, rfl, HG.out, HW.out.1, HW.out.2⟩
end Go.Proofs.Ytibbibpfnpjjdaa

/- The contract of frame.Put. -/
namespace Go.Proofs.Ytibbibpfnpjjdaa
open Go.RowKit
set_option linter.unusedSimpArgs false
set_option linter.unusedVariables false

/-- A number's four bytes, the highest first. -/
def be4 (x : Int) : List Nat := [(x / 16777216 % 256).toNat, (x / 65536 % 256).toNat, (x / 256 % 256).toNat, (x % 256).toNat]
def headF (f : FrT) : List Nat := [f.k.toNat, f.fr.toNat, f.tt.toNat] ++ be4 f.ep ++ be4 f.sq ++ be4 f.ac
/-- A frame's bytes. -/
def putF (f : FrT) (L : List Nat) : List Nat := headF f ++ L ++ le4 (crc (headF f ++ L))
theorem headF_len (f : FrT) : (headF f).length = 15 := rfl
theorem le4_lt (s : Nat) : ∀ b ∈ le4 s, b < 256 := by
  intro b hb
  simp only [le4, List.mem_cons, List.not_mem_nil, or_false] at hb
  rcases hb with rfl | rfl | rfl | rfl <;> omega
theorem be4_lt (x : Int) : ∀ b ∈ be4 x, b < 256 := by
  intro b hb
  simp only [be4, List.mem_cons, List.not_mem_nil, or_false] at hb
  rcases hb with rfl | rfl | rfl | rfl <;> omega
theorem may_bounds {f : FrT} {n : Nat} (h : mayF f n = 0) : (1 ≤ f.k ∧ f.k ≤ 4) ∧ (0 ≤ f.fr ∧ f.fr ≤ 8) ∧ (0 ≤ f.tt ∧ f.tt ≤ 8) ∧ (0 ≤ f.ep ∧ f.ep ≤ 1073741824) ∧ (0 ≤ f.sq ∧ f.sq ≤ 1073741824) ∧ (0 ≤ f.ac ∧ f.ac ≤ 1073741824) ∧ n ≤ 16384 := by
  unfold mayF at h
  split at h
  · rename_i hh
    obtain ⟨h1, h2, h3, h4, h5, h6, h7, h8⟩ := hh
    split at h
    · cases h
    · exact ⟨⟨h1, h2⟩, of_decide_eq_true h3, of_decide_eq_true h4, of_decide_eq_true h6, of_decide_eq_true h7, of_decide_eq_true h8, by omega⟩
  · cases h
theorem headF_lt {f : FrT} {n : Nat} (h : mayF f n = 0) : ∀ b ∈ headF f, b < 256 := by
  obtain ⟨h1, h2, h3, -⟩ := may_bounds h
  intro b hb
  simp only [headF, List.mem_append] at hb
  rcases hb with ((hb | hb) | hb) | hb
  · simp only [List.mem_cons, List.not_mem_nil, or_false] at hb
    rcases hb with rfl | rfl | rfl <;> omega
  · exact be4_lt _ b hb
  · exact be4_lt _ b hb
  · exact be4_lt _ b hb

theorem exec_makeSlice {P : Program} {ev : Operand → Value} {o : Oper} {w w' : World} (t : TypeId) (l c : Operand) (ho : o.op = .makeSlice t l c) {x y v : Value} (hl : ev l = x) (hc : ev c = y)
    (hrun : (Instr.makeSlice t x y).run P w = .ok v w') : (execOp ev o).run P w = .ok (.value v) w' := by
  unfold execOp
  simp only [ho, hl, hc, Sem.run_bind, Sem.run_pure, Result.andThen_ok, hrun]

/-- What Put tells, as a row of the call's own. -/
def GivesO (w : World) (f : FrT) (L : List Nat) (e : Ending) (w' : World) : Prop :=
  ∃ A c, e = .returned (.tuple #[.slice A (putF f L).length c, .int .i64 0]) ∧ w'.ownsRow w.heap.size 5 1 (.slice A (putF f L).length c) (putF f L).length (rowsV f8 (putF f L)) ∧ Below w.heap.size w w'
/-- What Put tells. -/
def GivesP (w : World) (f : FrT) (L : List Nat) (e : Ending) (w' : World) : Prop :=
  ∃ A c, e = .returned (.tuple #[.slice A (putF f L).length c, .int .i64 0]) ∧ RdS w' w'.heap.size 1 A (putF f L).length c (rowsV f8 (putF f L)) ∧ (∀ a, A = some a → w.heap.size ≤ a.block) ∧ Below w.heap.size w w'

theorem put_not (f : FrT) (A : Option Addr) (n c : Nat) (w : World) (h : mayF f n ≠ 0) :
    Calls Try.prog 27 #[.agg (frCells f A n c).toArray] w fun e w' => e = .returned (.tuple #[.slice none 0 0, .int .i64 (mayF f n)]) ∧ Below w.heap.size w w' := by
  have HM := Lib.hid (fmay_any f A n c)
  obtain ⟨x, gx⟩ : ∃ x, mayF f n = x := ⟨_, rfl⟩
  rw [gx] at HM h ⊢
  have q : (x == 0) = false := beq_eq_false_iff_ne.2 h
  have q' : (x != 0) = true := bne_iff_ne.2 h
  clear gx h
  unfold frCells at HM ⊢
  go_enter Try.func27, Try.ntmps27
  go_wp2_with fail
  refine (HM.out _).mono ?_
  rintro e w2 ⟨rfl, hb⟩
  go_wp2
  exact bodyPost_ret (v := .tuple #[.slice none 0 0, .int .i64 x]) (by simp [results, Try.results27, go_sem]) rfl ⟨rfl, (below1 _ _).trans (hb.mono (by simp))⟩

def PtIn (W2 : World) (f : FrT) (k : Nat) (v : Value) (wr : World) : Prop := Ow W2 W2.heap.size 5 1 v k (rowsV f8 ((headF f).take k)) wr
theorem PtIn.next {W2 wr : World} {f : FrT} {k b : Nat} {v : Value} {x : Int} (hk : (headF f)[k]? = some b) (hx : x = (b : Int)) (h : Ow W2 W2.heap.size 5 1 v (k + 1) (rowsV f8 ((headF f).take k) ++ [.int .u8 x]) wr) : PtIn W2 f (k + 1) v wr := by
  unfold PtIn
  rw [take_snoc_ (headF f) k b hk, rowsV_app]
  subst hx
  exact h

theorem size_int (W : World) : (sizeOf 3).run Try.prog W = .ok 1 W := by
  have h : (Try.prog.info? 3).map (·.size) = some 1 := by kernel_rfl
  cases hq : Try.prog.info? 3 with
  | none => simp [hq] at h
  | some i => simp [hq] at h; simp [sizeOf, typeInfo, hq, h]
theorem idx_is (cs : Array Value) (j : Nat) (hj : j < 3) (x : Int) (hx : cs[j]? = some (.int .i64 x)) (W : World) : (Instr.index 87 (.agg cs) (.int .i64 (j : Int))).run Try.prog W = .ok (.int .i64 x) W := by
  simp only [Instr.index, asIntOf, Sem.run_bind, Sem.run_pure, Result.andThen_ok, run_underlying Try.underlying87]
  rw [if_pos ⟨by omega, by omega⟩]
  simp only [Sem.run_bind, size_int, Result.andThen_ok, part, Int.toNat_natCast, Nat.mul_one]
  have ha : (isAgg 3).run Try.prog W = .ok false W := by
    unfold isAgg
    rw [Sem.run_bind, run_underlying Try.underlying3 W]
    rfl
  simp [ha, hx]

set_option maxRecDepth 100000 in
set_option maxHeartbeats 4000000 in
theorem put_own (f : FrT) (A : Option Addr) (n c : Nat) (L : List Nat) (w : World) (h : mayF f n = 0) (hr : RdS w w.heap.size 1 A n c (rowsV f8 L)) (hb : ∀ b ∈ L, b < 256) :
    Calls Try.prog 27 #[.agg (frCells f A n c).toArray] w (GivesO w f L) := by
  have hl := hr.rlen f8_len (by decide)
  obtain rfl := hl
  obtain ⟨i0, hi, hz0, hz1, hz2⟩ := info_parts_ info_u8
  have hM := fmay_any f A L.length c
  rw [h] at hM
  have HM := Lib.hid hM
  have HLt := Lib.hid (headF_lt h)
  have HBy := Lib.hid hb
  have HR := Lib.hid hr
  obtain ⟨⟨bk1, bk2⟩, ⟨bf1, bf2⟩, ⟨bt1, bt2⟩, ⟨be1, be2⟩, ⟨bs1, bs2⟩, ⟨ba1, ba2⟩, bn⟩ := may_bounds h
  clear hM h hb hr
  have HO : RowKit.Hid (Whole (w.alloc (.cells (frCells f A L.length c).toArray 34)) w.heap.size 34 (frCells f A L.length c)) := Lib.hid (Whole.new_ _ _ _)
  unfold frCells at HM ⊢
  go_enter Try.func27, Try.ntmps27
  go_wp2_with fail
  refine (HM.out _).mono ?_
  rintro e W2 ⟨rfl, hb2⟩
  have HO2 := Lib.hid (HO.out.below hb2)
  have HB2 : RowKit.Hid (Below w.heap.size w W2) := Lib.hid ((below1 _ _).trans (hb2.mono (by simp)))
  have HR2 := Lib.hid (HR.out.up HB2.out HB2.out.size)
  have HG0 : RowKit.Hid (w.heap.size < W2.heap.size) := Lib.hid (by have := hb2.size; simp at this; omega)
  clear hb2 HO
  have c6 := HO2.out.cell (i := 6) (v := .slice A L.length c) rfl
  have hw1 : IntKind.i64.wrap (15 + (L.length : Int)) = 15 + (L.length : Int) := IntWalk.i64_in _ (by omega)
  have hw2 : IntKind.i64.wrap (15 + (L.length : Int) + 4) = 15 + (L.length : Int) + 4 := IntWalk.i64_in _ (by omega)
  go_upto_region 4 with fail
  refine wp_region_lit ?_
  refine wl_read (v := ?_) (some 14) rfl (by rfl) ?_ ?_
  rotate_left
  · go_simp; (try with_reducible rfl)
  simp only [Act.put, List.setIfInBounds_toArray, List.set_cons_zero, List.set_cons_succ]
  refine wl_read (v := ?_) (some 15) rfl (by rfl) ?_ ?_
  rotate_left
  · go_simp; (try with_reducible rfl)
  simp only [Act.put, List.setIfInBounds_toArray, List.set_cons_zero, List.set_cons_succ]
  refine wl_read (v := ?_) (some 16) rfl (by rfl) ?_ ?_
  rotate_left
  · go_simp; (try with_reducible rfl)
  simp only [Act.put, List.setIfInBounds_toArray, List.set_cons_zero, List.set_cons_succ]
  refine wl_read (v := ?_) (some 17) rfl (by rfl) ?_ ?_
  rotate_left
  · go_simp; (try with_reducible rfl)
  simp only [Act.put, List.setIfInBounds_toArray, List.set_cons_zero, List.set_cons_succ]
  refine wl_read (v := ?_) (some 18) rfl (by rfl) ?_ ?_
  rotate_left
  · go_simp; (try with_reducible rfl)
  simp only [Act.put, List.setIfInBounds_toArray, List.set_cons_zero, List.set_cons_succ]
  obtain ⟨W3, hrun, hown, hgr⟩ := run_make_own (P := Try.prog) W2 W2.heap.size 32 5 i0 _ 1 Try.underlying32 hi hz0 hz1 .i64 .i64 (15 + L.length + 4) (by rw [hz2]; omega) (by unfold maxLen; omega) (Nat.le_refl _)
  refine wl_run (some 19) rfl (by rfl) (exec_makeSlice 32 _ _ rfl (by rfl) (by rfl) hrun) ?_
  simp only [Act.put, List.setIfInBounds_toArray, List.set_cons_zero, List.set_cons_succ]
  have HP0 : RowKit.Hid (PtIn W2 f 0 (.slice (some ⟨W2.heap.size, 0, none⟩) 0 (15 + L.length + 4)) W3) := Lib.hid ⟨hown, (Below.refl _ _).grown hgr (Nat.le_refl _) (fun k e => by cases e), Nat.le_refl _, hgr.size⟩
  obtain ⟨g0, gg0⟩ : ∃ x, w.heap.size = x := ⟨_, rfl⟩
  rw [gg0] at HO2 c6 ⊢
  have HG1 : RowKit.Hid (g0 < W2.heap.size) := Lib.hid (gg0 ▸ HG0.out)
  clear hrun hown hgr c6 gg0 hw1 hw2
  have HO3 := Lib.hid (HO2.out.below HP0.out.below)
  have c0 := HO3.out.cell (i := 0) (v := .int .i64 f.k) rfl
  have c1 := HO3.out.cell (i := 1) (v := .int .i64 f.fr) rfl
  have c2 := HO3.out.cell (i := 2) (v := .int .i64 f.tt) rfl
  have c3 := HO3.out.cell (i := 3) (v := .int .i64 f.ep) rfl
  have c4 := HO3.out.cell (i := 4) (v := .int .i64 f.sq) rfl
  have c5 := HO3.out.cell (i := 5) (v := .int .i64 f.ac) rfl
  have uk : IntKind.u8.wrap f.k = f.k := by rw [IntKind.wrap_u8]; omega
  have uf : IntKind.u8.wrap f.fr = f.fr := by rw [IntKind.wrap_u8]; omega
  have ut : IntKind.u8.wrap f.tt = f.tt := by rw [IntKind.wrap_u8]; omega
  go_wp2_with (first
    | (at_builtin
       refine wpList_push2 rfl (.tmp 20) (.tmp 30) _ rfl _ 5 i0 _ 1 1 Try.underlying32 hi hz0 hz1 hz2 rfl (by decide) _ _ _ rfl (by exact Ow.up HP0.out (below1 _ _)) _ (some ⟨W3.heap.size, 0, none⟩) 3 3 ([.int .u8 f.k, .int .u8 f.fr, .int .u8 f.tt]) rfl (by exact RdS.new_ rfl (Nat.lt_succ_self _) rfl rfl) (by simp [Value.oneCell']) (by unfold maxLen; omega) (by omega) ?_
       intro v1 W4 how1 hb1 hgr1
       have HP3 : RowKit.Hid (PtIn W2 f 3 v1 W4) := Lib.hid (by
         have e1 : ((f.k.toNat : Nat) : Int) = f.k := by omega
         have e2 : ((f.fr.toNat : Nat) : Int) = f.fr := by omega
         have e3 : ((f.tt.toNat : Nat) : Int) = f.tt := by omega
         have := how1
         simp only [Nat.zero_add, List.take_zero, rowsV, List.nil_append] at this
         unfold PtIn
         simpa [headF, rowsV, f8, e1, e2, e3] using this)
       have HO4 := Lib.hid (HO2.out.below HP3.out.below)
       clear how1 hb1 hgr1 c0 c1 c2 c3 c4 c5 uk uf ut HO3
       have d3 := HO4.out.cell (i := 3) (v := .int .i64 f.ep) rfl
       have d4 := HO4.out.cell (i := 4) (v := .int .i64 f.sq) rfl
       have d5 := HO4.out.cell (i := 5) (v := .int .i64 f.ac) rfl))
  clear HP0 d3 d4 d5
  go_loopw [5, 39] (fun v i wr => ∃ j : Nat, j ≤ 3 ∧ i = .int .i64 j ∧ RowKit.Hid (PtIn W2 f (3 + 4 * j) v wr)) (fun _ i _ => 3 - (intOf i).toNat)
  case atStart => exact ⟨0, by omega, rfl, HP3⟩
  case round =>
    clear HP3
    obtain ⟨j, hj, rfl, HP⟩ := hrel
    by_cases hlt : j < 3
    · have hcs : j = 0 ∨ j = 1 ∨ j = 2 := by omega
      rcases hcs with h0 | h0 | h0
      · clear hlt hj
        obtain rfl := h0
        rw [show ((0 : Nat) : Int) = 0 from rfl]
        have hix := idx_is #[.int .i64 f.ep, .int .i64 f.sq, .int .i64 f.ac] 0 (by omega) f.ep rfl
        rw [show ((0 : Nat) : Int) = 0 from rfl] at hix
        go_wp2
        clear hix
        go_loopw [5, 42] (fun v i wq => ∃ q : Nat, q ≤ 4 ∧ i = .int .i64 q ∧ RowKit.Hid (PtIn W2 f (3 + q) v wq)) (fun _ i _ => 4 - (intOf i).toNat)
        case atStart => exact ⟨0, by omega, rfl, HP⟩
        case round =>
          clear HP
          obtain ⟨q, hq, rfl, HP⟩ := hrel
          by_cases hlt : q < 4
          · have hcs : q = 0 ∨ q = 1 ∨ q = 2 ∨ q = 3 := by omega
            rcases hcs with h0 | h0 | h0 | h0
            · clear hlt hq
              obtain rfl := h0
              rw [show ((0 : Nat) : Int) = 0 from rfl]
              have uw : IntKind.u8.wrap (f.ep / 16777216) = f.ep / 16777216 % 256 := by rw [IntKind.wrap_u8]
              go_wp2_with (first
                | (at_builtin
                   refine wpList_push2 rfl (.tmp 45) (.tmp 52) _ rfl _ 5 i0 _ 1 1 Try.underlying32 hi hz0 hz1 hz2 rfl (by decide) _ _ _ rfl (by exact Ow.up HP.out (below1 _ _)) _ (some ⟨wr.heap.size, 0, none⟩) 1 1 ([.int .u8 (f.ep / 16777216 % 256)]) rfl (by exact RdS.new_ rfl (Nat.lt_succ_self _) rfl rfl) (by simp [Value.oneCell']) (by unfold maxLen; omega) (by omega) ?_
                   intro v1 W5 how1 hb1 hgr1
                   have HPn : RowKit.Hid (PtIn W2 f (3 + 1) v1 W5) := Lib.hid (PtIn.next (k := 3) (b := (f.ep / 16777216 % 256).toNat) rfl (by omega) how1)
                   clear how1 hb1 hgr1))
              go_roundw
              case rel => exact ⟨1, by omega, by go_num, HPn⟩
              case measure => simp [intOf]
            · clear hlt hq
              obtain rfl := h0
              rw [show ((1 : Nat) : Int) = 1 from rfl]
              have uw : IntKind.u8.wrap (f.ep / 65536) = f.ep / 65536 % 256 := by rw [IntKind.wrap_u8]
              go_wp2_with (first
                | (at_builtin
                   refine wpList_push2 rfl (.tmp 45) (.tmp 52) _ rfl _ 5 i0 _ 1 1 Try.underlying32 hi hz0 hz1 hz2 rfl (by decide) _ _ _ rfl (by exact Ow.up HP.out (below1 _ _)) _ (some ⟨wr.heap.size, 0, none⟩) 1 1 ([.int .u8 (f.ep / 65536 % 256)]) rfl (by exact RdS.new_ rfl (Nat.lt_succ_self _) rfl rfl) (by simp [Value.oneCell']) (by unfold maxLen; omega) (by omega) ?_
                   intro v1 W5 how1 hb1 hgr1
                   have HPn : RowKit.Hid (PtIn W2 f (3 + 2) v1 W5) := Lib.hid (PtIn.next (k := 4) (b := (f.ep / 65536 % 256).toNat) rfl (by omega) how1)
                   clear how1 hb1 hgr1))
              go_roundw
              case rel => exact ⟨2, by omega, by go_num, HPn⟩
              case measure => simp [intOf]
            · clear hlt hq
              obtain rfl := h0
              rw [show ((2 : Nat) : Int) = 2 from rfl]
              have uw : IntKind.u8.wrap (f.ep / 256) = f.ep / 256 % 256 := by rw [IntKind.wrap_u8]
              go_wp2_with (first
                | (at_builtin
                   refine wpList_push2 rfl (.tmp 45) (.tmp 52) _ rfl _ 5 i0 _ 1 1 Try.underlying32 hi hz0 hz1 hz2 rfl (by decide) _ _ _ rfl (by exact Ow.up HP.out (below1 _ _)) _ (some ⟨wr.heap.size, 0, none⟩) 1 1 ([.int .u8 (f.ep / 256 % 256)]) rfl (by exact RdS.new_ rfl (Nat.lt_succ_self _) rfl rfl) (by simp [Value.oneCell']) (by unfold maxLen; omega) (by omega) ?_
                   intro v1 W5 how1 hb1 hgr1
                   have HPn : RowKit.Hid (PtIn W2 f (3 + 3) v1 W5) := Lib.hid (PtIn.next (k := 5) (b := (f.ep / 256 % 256).toNat) rfl (by omega) how1)
                   clear how1 hb1 hgr1))
              go_roundw
              case rel => exact ⟨3, by omega, by go_num, HPn⟩
              case measure => simp [intOf]
            · clear hlt hq
              obtain rfl := h0
              rw [show ((3 : Nat) : Int) = 3 from rfl]
              have uw : IntKind.u8.wrap (f.ep) = f.ep % 256 := by rw [IntKind.wrap_u8]
              go_wp2_with (first
                | (at_builtin
                   refine wpList_push2 rfl (.tmp 45) (.tmp 52) _ rfl _ 5 i0 _ 1 1 Try.underlying32 hi hz0 hz1 hz2 rfl (by decide) _ _ _ rfl (by exact Ow.up HP.out (below1 _ _)) _ (some ⟨wr.heap.size, 0, none⟩) 1 1 ([.int .u8 (f.ep % 256)]) rfl (by exact RdS.new_ rfl (Nat.lt_succ_self _) rfl rfl) (by simp [Value.oneCell']) (by unfold maxLen; omega) (by omega) ?_
                   intro v1 W5 how1 hb1 hgr1
                   have HPn : RowKit.Hid (PtIn W2 f (3 + 4) v1 W5) := Lib.hid (PtIn.next (k := 6) (b := (f.ep % 256).toNat) rfl (by omega) how1)
                   clear how1 hb1 hgr1))
              go_roundw
              case rel => exact ⟨4, by omega, by go_num, HPn⟩
              case measure => simp [intOf]
          · obtain rfl : q = 4 := by omega
            go_wp2
            go_roundw
            case rel => exact ⟨1, by omega, by go_num, HP⟩
            case measure => simp [intOf]
      · clear hlt hj
        obtain rfl := h0
        rw [show ((1 : Nat) : Int) = 1 from rfl]
        have hix := idx_is #[.int .i64 f.ep, .int .i64 f.sq, .int .i64 f.ac] 1 (by omega) f.sq rfl
        rw [show ((1 : Nat) : Int) = 1 from rfl] at hix
        go_wp2
        clear hix
        go_loopw [5, 42] (fun v i wq => ∃ q : Nat, q ≤ 4 ∧ i = .int .i64 q ∧ RowKit.Hid (PtIn W2 f (7 + q) v wq)) (fun _ i _ => 4 - (intOf i).toNat)
        case atStart => exact ⟨0, by omega, rfl, HP⟩
        case round =>
          clear HP
          obtain ⟨q, hq, rfl, HP⟩ := hrel
          by_cases hlt : q < 4
          · have hcs : q = 0 ∨ q = 1 ∨ q = 2 ∨ q = 3 := by omega
            rcases hcs with h0 | h0 | h0 | h0
            · clear hlt hq
              obtain rfl := h0
              rw [show ((0 : Nat) : Int) = 0 from rfl]
              have uw : IntKind.u8.wrap (f.sq / 16777216) = f.sq / 16777216 % 256 := by rw [IntKind.wrap_u8]
              go_wp2_with (first
                | (at_builtin
                   refine wpList_push2 rfl (.tmp 45) (.tmp 52) _ rfl _ 5 i0 _ 1 1 Try.underlying32 hi hz0 hz1 hz2 rfl (by decide) _ _ _ rfl (by exact Ow.up HP.out (below1 _ _)) _ (some ⟨wr.heap.size, 0, none⟩) 1 1 ([.int .u8 (f.sq / 16777216 % 256)]) rfl (by exact RdS.new_ rfl (Nat.lt_succ_self _) rfl rfl) (by simp [Value.oneCell']) (by unfold maxLen; omega) (by omega) ?_
                   intro v1 W5 how1 hb1 hgr1
                   have HPn : RowKit.Hid (PtIn W2 f (7 + 1) v1 W5) := Lib.hid (PtIn.next (k := 7) (b := (f.sq / 16777216 % 256).toNat) rfl (by omega) how1)
                   clear how1 hb1 hgr1))
              go_roundw
              case rel => exact ⟨1, by omega, by go_num, HPn⟩
              case measure => simp [intOf]
            · clear hlt hq
              obtain rfl := h0
              rw [show ((1 : Nat) : Int) = 1 from rfl]
              have uw : IntKind.u8.wrap (f.sq / 65536) = f.sq / 65536 % 256 := by rw [IntKind.wrap_u8]
              go_wp2_with (first
                | (at_builtin
                   refine wpList_push2 rfl (.tmp 45) (.tmp 52) _ rfl _ 5 i0 _ 1 1 Try.underlying32 hi hz0 hz1 hz2 rfl (by decide) _ _ _ rfl (by exact Ow.up HP.out (below1 _ _)) _ (some ⟨wr.heap.size, 0, none⟩) 1 1 ([.int .u8 (f.sq / 65536 % 256)]) rfl (by exact RdS.new_ rfl (Nat.lt_succ_self _) rfl rfl) (by simp [Value.oneCell']) (by unfold maxLen; omega) (by omega) ?_
                   intro v1 W5 how1 hb1 hgr1
                   have HPn : RowKit.Hid (PtIn W2 f (7 + 2) v1 W5) := Lib.hid (PtIn.next (k := 8) (b := (f.sq / 65536 % 256).toNat) rfl (by omega) how1)
                   clear how1 hb1 hgr1))
              go_roundw
              case rel => exact ⟨2, by omega, by go_num, HPn⟩
              case measure => simp [intOf]
            · clear hlt hq
              obtain rfl := h0
              rw [show ((2 : Nat) : Int) = 2 from rfl]
              have uw : IntKind.u8.wrap (f.sq / 256) = f.sq / 256 % 256 := by rw [IntKind.wrap_u8]
              go_wp2_with (first
                | (at_builtin
                   refine wpList_push2 rfl (.tmp 45) (.tmp 52) _ rfl _ 5 i0 _ 1 1 Try.underlying32 hi hz0 hz1 hz2 rfl (by decide) _ _ _ rfl (by exact Ow.up HP.out (below1 _ _)) _ (some ⟨wr.heap.size, 0, none⟩) 1 1 ([.int .u8 (f.sq / 256 % 256)]) rfl (by exact RdS.new_ rfl (Nat.lt_succ_self _) rfl rfl) (by simp [Value.oneCell']) (by unfold maxLen; omega) (by omega) ?_
                   intro v1 W5 how1 hb1 hgr1
                   have HPn : RowKit.Hid (PtIn W2 f (7 + 3) v1 W5) := Lib.hid (PtIn.next (k := 9) (b := (f.sq / 256 % 256).toNat) rfl (by omega) how1)
                   clear how1 hb1 hgr1))
              go_roundw
              case rel => exact ⟨3, by omega, by go_num, HPn⟩
              case measure => simp [intOf]
            · clear hlt hq
              obtain rfl := h0
              rw [show ((3 : Nat) : Int) = 3 from rfl]
              have uw : IntKind.u8.wrap (f.sq) = f.sq % 256 := by rw [IntKind.wrap_u8]
              go_wp2_with (first
                | (at_builtin
                   refine wpList_push2 rfl (.tmp 45) (.tmp 52) _ rfl _ 5 i0 _ 1 1 Try.underlying32 hi hz0 hz1 hz2 rfl (by decide) _ _ _ rfl (by exact Ow.up HP.out (below1 _ _)) _ (some ⟨wr.heap.size, 0, none⟩) 1 1 ([.int .u8 (f.sq % 256)]) rfl (by exact RdS.new_ rfl (Nat.lt_succ_self _) rfl rfl) (by simp [Value.oneCell']) (by unfold maxLen; omega) (by omega) ?_
                   intro v1 W5 how1 hb1 hgr1
                   have HPn : RowKit.Hid (PtIn W2 f (7 + 4) v1 W5) := Lib.hid (PtIn.next (k := 10) (b := (f.sq % 256).toNat) rfl (by omega) how1)
                   clear how1 hb1 hgr1))
              go_roundw
              case rel => exact ⟨4, by omega, by go_num, HPn⟩
              case measure => simp [intOf]
          · obtain rfl : q = 4 := by omega
            go_wp2
            go_roundw
            case rel => exact ⟨2, by omega, by go_num, HP⟩
            case measure => simp [intOf]
      · clear hlt hj
        obtain rfl := h0
        rw [show ((2 : Nat) : Int) = 2 from rfl]
        have hix := idx_is #[.int .i64 f.ep, .int .i64 f.sq, .int .i64 f.ac] 2 (by omega) f.ac rfl
        rw [show ((2 : Nat) : Int) = 2 from rfl] at hix
        go_wp2
        clear hix
        go_loopw [5, 42] (fun v i wq => ∃ q : Nat, q ≤ 4 ∧ i = .int .i64 q ∧ RowKit.Hid (PtIn W2 f (11 + q) v wq)) (fun _ i _ => 4 - (intOf i).toNat)
        case atStart => exact ⟨0, by omega, rfl, HP⟩
        case round =>
          clear HP
          obtain ⟨q, hq, rfl, HP⟩ := hrel
          by_cases hlt : q < 4
          · have hcs : q = 0 ∨ q = 1 ∨ q = 2 ∨ q = 3 := by omega
            rcases hcs with h0 | h0 | h0 | h0
            · clear hlt hq
              obtain rfl := h0
              rw [show ((0 : Nat) : Int) = 0 from rfl]
              have uw : IntKind.u8.wrap (f.ac / 16777216) = f.ac / 16777216 % 256 := by rw [IntKind.wrap_u8]
              go_wp2_with (first
                | (at_builtin
                   refine wpList_push2 rfl (.tmp 45) (.tmp 52) _ rfl _ 5 i0 _ 1 1 Try.underlying32 hi hz0 hz1 hz2 rfl (by decide) _ _ _ rfl (by exact Ow.up HP.out (below1 _ _)) _ (some ⟨wr.heap.size, 0, none⟩) 1 1 ([.int .u8 (f.ac / 16777216 % 256)]) rfl (by exact RdS.new_ rfl (Nat.lt_succ_self _) rfl rfl) (by simp [Value.oneCell']) (by unfold maxLen; omega) (by omega) ?_
                   intro v1 W5 how1 hb1 hgr1
                   have HPn : RowKit.Hid (PtIn W2 f (11 + 1) v1 W5) := Lib.hid (PtIn.next (k := 11) (b := (f.ac / 16777216 % 256).toNat) rfl (by omega) how1)
                   clear how1 hb1 hgr1))
              go_roundw
              case rel => exact ⟨1, by omega, by go_num, HPn⟩
              case measure => simp [intOf]
            · clear hlt hq
              obtain rfl := h0
              rw [show ((1 : Nat) : Int) = 1 from rfl]
              have uw : IntKind.u8.wrap (f.ac / 65536) = f.ac / 65536 % 256 := by rw [IntKind.wrap_u8]
              go_wp2_with (first
                | (at_builtin
                   refine wpList_push2 rfl (.tmp 45) (.tmp 52) _ rfl _ 5 i0 _ 1 1 Try.underlying32 hi hz0 hz1 hz2 rfl (by decide) _ _ _ rfl (by exact Ow.up HP.out (below1 _ _)) _ (some ⟨wr.heap.size, 0, none⟩) 1 1 ([.int .u8 (f.ac / 65536 % 256)]) rfl (by exact RdS.new_ rfl (Nat.lt_succ_self _) rfl rfl) (by simp [Value.oneCell']) (by unfold maxLen; omega) (by omega) ?_
                   intro v1 W5 how1 hb1 hgr1
                   have HPn : RowKit.Hid (PtIn W2 f (11 + 2) v1 W5) := Lib.hid (PtIn.next (k := 12) (b := (f.ac / 65536 % 256).toNat) rfl (by omega) how1)
                   clear how1 hb1 hgr1))
              go_roundw
              case rel => exact ⟨2, by omega, by go_num, HPn⟩
              case measure => simp [intOf]
            · clear hlt hq
              obtain rfl := h0
              rw [show ((2 : Nat) : Int) = 2 from rfl]
              have uw : IntKind.u8.wrap (f.ac / 256) = f.ac / 256 % 256 := by rw [IntKind.wrap_u8]
              go_wp2_with (first
                | (at_builtin
                   refine wpList_push2 rfl (.tmp 45) (.tmp 52) _ rfl _ 5 i0 _ 1 1 Try.underlying32 hi hz0 hz1 hz2 rfl (by decide) _ _ _ rfl (by exact Ow.up HP.out (below1 _ _)) _ (some ⟨wr.heap.size, 0, none⟩) 1 1 ([.int .u8 (f.ac / 256 % 256)]) rfl (by exact RdS.new_ rfl (Nat.lt_succ_self _) rfl rfl) (by simp [Value.oneCell']) (by unfold maxLen; omega) (by omega) ?_
                   intro v1 W5 how1 hb1 hgr1
                   have HPn : RowKit.Hid (PtIn W2 f (11 + 3) v1 W5) := Lib.hid (PtIn.next (k := 13) (b := (f.ac / 256 % 256).toNat) rfl (by omega) how1)
                   clear how1 hb1 hgr1))
              go_roundw
              case rel => exact ⟨3, by omega, by go_num, HPn⟩
              case measure => simp [intOf]
            · clear hlt hq
              obtain rfl := h0
              rw [show ((3 : Nat) : Int) = 3 from rfl]
              have uw : IntKind.u8.wrap (f.ac) = f.ac % 256 := by rw [IntKind.wrap_u8]
              go_wp2_with (first
                | (at_builtin
                   refine wpList_push2 rfl (.tmp 45) (.tmp 52) _ rfl _ 5 i0 _ 1 1 Try.underlying32 hi hz0 hz1 hz2 rfl (by decide) _ _ _ rfl (by exact Ow.up HP.out (below1 _ _)) _ (some ⟨wr.heap.size, 0, none⟩) 1 1 ([.int .u8 (f.ac % 256)]) rfl (by exact RdS.new_ rfl (Nat.lt_succ_self _) rfl rfl) (by simp [Value.oneCell']) (by unfold maxLen; omega) (by omega) ?_
                   intro v1 W5 how1 hb1 hgr1
                   have HPn : RowKit.Hid (PtIn W2 f (11 + 4) v1 W5) := Lib.hid (PtIn.next (k := 14) (b := (f.ac % 256).toNat) rfl (by omega) how1)
                   clear how1 hb1 hgr1))
              go_roundw
              case rel => exact ⟨4, by omega, by go_num, HPn⟩
              case measure => simp [intOf]
          · obtain rfl : q = 4 := by omega
            go_wp2
            go_roundw
            case rel => exact ⟨3, by omega, by go_num, HP⟩
            case measure => simp [intOf]
    · obtain rfl : j = 3 := by omega
      have HPo : RowKit.Hid (Ow W2 W2.heap.size 5 1 _ 15 (rowsV f8 (headF f)) wr) := Lib.hid HP.out
      have HO5 := Lib.hid (HO2.out.below HP.out.below)
      have d6 := HO5.out.cell (i := 6) (v := .slice A L.length c) rfl
      have HS := Lib.hid (fun A1 c1 W hr => sumbytes_any A1 (15 + L.length) c1 (headF f ++ L) W hr (by intro b hb; rcases List.mem_append.1 hb with hb | hb; exact HLt.out b hb; exact HBy.out b hb) (by unfold maxLen; omega))
      go_wp2_with (first
        | (at_builtin
           refine wpList_push2 rfl (.tmp 56) (.tmp 58) _ rfl _ 5 i0 _ 1 1 Try.underlying32 hi hz0 hz1 hz2 rfl (by decide) _ _ _ rfl (by exact Ow.up HPo.out (Below.refl _ _)) _ A L.length c (rowsV f8 L) rfl (HR2.out.up HP.out.below HP.out.below.size) (f8_all L) (by unfold maxLen; omega) (by omega) ?_
           intro v1 W5 how1 hb1 hgr1
           rw [← rowsV_app] at how1
           obtain ⟨A5, c5, rfl, hr5⟩ := how1.rds
           have HP5 := Lib.hid how1
           have HR5 := Lib.hid hr5
           clear how1 hb1 hgr1 hr5 d6)
        | (go_at_call 44
           refine (HS.out _ _ _ HR5.out).mono ?_
           rintro e W6 ⟨g6, rfl, hg6, hw6, hb6⟩
           have HP6 := Lib.hid (HP5.out.up hb6)
           have HR6 : RowKit.Hid (RdS W6 W6.heap.size 1 (some ⟨g6, 0, none⟩) 4 4 (rowsV f8 (le4 (crc (headF f ++ L))))) := Lib.hid (RdS.of_whole hw6 (by rfl))
           clear hg6 hw6 hb6)
        | (at_builtin
           refine wpList_push2 rfl (.tmp 60) (.tmp 62) _ rfl _ 5 i0 _ 1 1 Try.underlying32 hi hz0 hz1 hz2 rfl (by decide) _ _ _ rfl (by exact Ow.up HP6.out (Below.refl _ _)) _ (some ⟨g6, 0, none⟩) 4 4 (rowsV f8 (le4 (crc (headF f ++ L)))) rfl (HR6.out) (f8_all _) (by unfold maxLen; omega) (by omega) ?_
           intro v7 W7 how7 hb7 hgr7
           rw [← rowsV_app] at how7
           obtain ⟨A7, c7, rfl, hr7⟩ := how7.rds
           have HP7 := Lib.hid how7
           have HR7 := Lib.hid hr7
           clear how7 hb7 hgr7 hr7))
      have hlen : (putF f L).length = 15 + L.length + 4 := by simp [putF, headF_len, le4]; omega
      refine bodyPost_ret (v := .tuple #[.slice A7 (15 + L.length + 4) c7, .int .i64 0]) (by simp [results, Try.results27, go_sem]) rfl ?_
      exact ⟨A7, c7, by rw [hlen], by rw [hlen]; exact own_lo HP7.out.own HB2.out.size, HB2.out.trans (HP7.out.below.mono HB2.out.size)⟩
theorem put_yes (f : FrT) (A : Option Addr) (n c : Nat) (L : List Nat) (w : World) (h : mayF f n = 0) (hr : RdS w w.heap.size 1 A n c (rowsV f8 L)) (hb : ∀ b ∈ L, b < 256) :
    Calls Try.prog 27 #[.agg (frCells f A n c).toArray] w (GivesP w f L) := by
  refine (put_own f A n c L w h hr hb).mono ?_
  rintro e w' ⟨A', c', h1, h2, h3⟩
  obtain ⟨A2, c2, e2, h4⟩ := RdS.of_own h2
  injection e2 with a1 a2 a3
  subst a1 a3
  exact ⟨A', c', h1, h4, fun a ha => by subst ha; exact (h2.lt a.block rfl).1, h3⟩
end Go.Proofs.Ytibbibpfnpjjdaa

/- The contract of the document's own four: four bytes behind a row of the caller's own. -/
namespace Go.Proofs.Ytibbibpfnpjjdaa
open Go.RowKit
set_option linter.unusedSimpArgs false
set_option linter.unusedVariables false

/-- What four tells: the row, four bytes longer. -/
def GivesFour (w : World) (B : Nat) (n : Nat) (L : List Nat) (W : World) (e : Ending) (W' : World) : Prop :=
  ∃ v', e = .returned v' ∧ Ow w B 5 1 v' (n + 4) (rowsV f8 L) W' ∧ Below B W W'
set_option maxRecDepth 100000 in
theorem four_any (w : World) (B n : Nat) (v : Value) (L : List Nat) (x : Int) (W : World) (h : Ow w B 5 1 v n (rowsV f8 L) W) (hn : n ≤ 100000) (h0 : 0 ≤ x) (h1 : x ≤ 1073741824) :
    Calls Try.prog 64 #[v, .int .i64 x] W (GivesFour w B n (L ++ be4 x) W) := by
  obtain ⟨i0, hi, hz0, hz1, hz2⟩ := info_parts_ info_u8
  obtain ⟨A, c, rfl, -⟩ := h.rds
  have HO := Lib.hid h
  have u1 : IntKind.u8.wrap (x / 16777216) = x / 16777216 % 256 := by rw [IntKind.wrap_u8]
  have u2 : IntKind.u8.wrap (x / 65536 % 256) = x / 65536 % 256 := by rw [IntKind.wrap_u8]; omega
  have u3 : IntKind.u8.wrap (x / 256 % 256) = x / 256 % 256 := by rw [IntKind.wrap_u8]; omega
  have u4 : IntKind.u8.wrap (x % 256) = x % 256 := by rw [IntKind.wrap_u8]; omega
  clear h
  go_enter Try.func64, Try.ntmps64
  go_wp2_with (first
    | (at_builtin
       refine wpList_push2 rfl (.tmp 5) (.tmp 20) _ rfl _ 5 i0 _ 1 1 Try.underlying32 hi hz0 hz1 hz2 rfl (by decide) _ _ _ rfl (by exact HO.out.up (below1 _ _)) _ (some ⟨W.heap.size, 0, none⟩) 4 4 ([.int .u8 (x / 16777216 % 256), .int .u8 (x / 65536 % 256), .int .u8 (x / 256 % 256), .int .u8 (x % 256)]) rfl (by exact RdS.new_ rfl (Nat.lt_succ_self _) rfl rfl) (by simp [Value.oneCell']) (by unfold maxLen; omega) (by omega) ?_
       intro v1 W4 how1 hb1 hgr1
       have HO1 := Lib.hid how1
       have HB1 := Lib.hid hb1
       clear how1 hb1 hgr1))
  go_ret
  refine ⟨_, rfl, ?_, (((Below.refl _ _).alloc HO.out.hi _).trans HB1.out)⟩
  have e1 : (((x / 16777216 % 256).toNat : Nat) : Int) = x / 16777216 % 256 := by omega
  have e2 : (((x / 65536 % 256).toNat : Nat) : Int) = x / 65536 % 256 := by omega
  have e3 : (((x / 256 % 256).toNat : Nat) : Int) = x / 256 % 256 := by omega
  have e4 : (((x % 256).toNat : Nat) : Int) = x % 256 := by omega
  rw [rowsV_app]
  have := HO1.out
  simpa [be4, rowsV, f8, e1, e2, e3, e4] using this
end Go.Proofs.Ytibbibpfnpjjdaa

/- The contract of the document's own Put. -/
namespace Go.Proofs.Ytibbibpfnpjjdaa
open Go.RowKit
set_option linter.unusedSimpArgs false
set_option linter.unusedVariables false

theorem rput_not (f : FrT) (A : Option Addr) (n c : Nat) (w : World) (h : mayF f n ≠ 0) :
    Calls Try.prog 51 #[.agg (frCells f A n c).toArray] w fun e w' => e = .returned (.tuple #[.slice none 0 0, .int .i64 (mayF f n)]) ∧ Below w.heap.size w w' := by
  have HM := Lib.hid (rfmay_any f A n c)
  obtain ⟨x, gx⟩ : ∃ x, mayF f n = x := ⟨_, rfl⟩
  rw [gx] at HM h ⊢
  have q : (x == 0) = false := beq_eq_false_iff_ne.2 h
  have q' : (x != 0) = true := bne_iff_ne.2 h
  clear gx h
  unfold frCells at HM ⊢
  go_enter Try.func51, Try.ntmps51
  go_wp2_with fail
  refine (HM.out _).mono ?_
  rintro e w2 ⟨rfl, hb⟩
  go_wp2
  exact bodyPost_ret (v := .tuple #[.slice none 0 0, .int .i64 x]) (by simp [results, Try.results51, go_sem]) rfl ⟨rfl, (below1 _ _).trans (hb.mono (by simp))⟩

set_option maxRecDepth 100000 in
set_option maxHeartbeats 4000000 in
theorem rput_own (f : FrT) (A : Option Addr) (n c : Nat) (L : List Nat) (w : World) (h : mayF f n = 0) (hr : RdS w w.heap.size 1 A n c (rowsV f8 L)) (hb : ∀ b ∈ L, b < 256) :
    Calls Try.prog 51 #[.agg (frCells f A n c).toArray] w (GivesO w f L) := by
  have hl := hr.rlen f8_len (by decide)
  obtain rfl := hl
  obtain ⟨i0, hi, hz0, hz1, hz2⟩ := info_parts_ info_u8
  have hM := rfmay_any f A L.length c
  rw [h] at hM
  have HM := Lib.hid hM
  have HLt := Lib.hid (headF_lt h)
  have HBy := Lib.hid hb
  have HR := Lib.hid hr
  obtain ⟨⟨bk1, bk2⟩, ⟨bf1, bf2⟩, ⟨bt1, bt2⟩, ⟨be1, be2⟩, ⟨bs1, bs2⟩, ⟨ba1, ba2⟩, bn⟩ := may_bounds h
  clear hM h hb hr
  have HO : RowKit.Hid (Whole (w.alloc (.cells (frCells f A L.length c).toArray 34)) w.heap.size 34 (frCells f A L.length c)) := Lib.hid (Whole.new_ _ _ _)
  unfold frCells at HM ⊢
  go_enter Try.func51, Try.ntmps51
  go_wp2_with fail
  refine (HM.out _).mono ?_
  rintro e W2 ⟨rfl, hb2⟩
  have HO2 := Lib.hid (HO.out.below hb2)
  have HB2 : RowKit.Hid (Below w.heap.size w W2) := Lib.hid ((below1 _ _).trans (hb2.mono (by simp)))
  have HR2 := Lib.hid (HR.out.up HB2.out HB2.out.size)
  have HG0 : RowKit.Hid (w.heap.size < W2.heap.size) := Lib.hid (by have := hb2.size; simp at this; omega)
  clear hb2 HO
  have c0 := HO2.out.cell (i := 0) (v := .int .i64 f.k) rfl
  have c1 := HO2.out.cell (i := 1) (v := .int .i64 f.fr) rfl
  have c2 := HO2.out.cell (i := 2) (v := .int .i64 f.tt) rfl
  have uk : IntKind.u8.wrap f.k = f.k := by rw [IntKind.wrap_u8]; omega
  have uf : IntKind.u8.wrap f.fr = f.fr := by rw [IntKind.wrap_u8]; omega
  have ut : IntKind.u8.wrap f.tt = f.tt := by rw [IntKind.wrap_u8]; omega
  go_upto_region 5 with fail
  clear uk uf ut c0 c1 c2
  have HP0 : RowKit.Hid (Ow W2 W2.heap.size 5 1 (.slice (some ⟨W2.heap.size, 0, none⟩) 3 3) 3 (rowsV f8 [f.k.toNat, f.fr.toNat, f.tt.toNat]) (W2.alloc (.cells #[.int .u8 f.k, .int .u8 f.fr, .int .u8 f.tt] 5))) := Lib.hid (by
    have e1 : ((f.k.toNat : Nat) : Int) = f.k := by omega
    have e2 : ((f.fr.toNat : Nat) : Int) = f.fr := by omega
    have e3 : ((f.tt.toNat : Nat) : Int) = f.tt := by omega
    have := Ow.new_ (w := W2) (B := W2.heap.size) (W := W2) (e := 5) (size := 1) (n := 3) (cs := #[.int .u8 f.k, .int .u8 f.fr, .int .u8 f.tt]) (Below.refl _ _) (Nat.le_refl _) (Nat.le_refl _) (by decide) rfl
    simpa [rowsV, f8, e1, e2, e3] using this)
  obtain ⟨W3, gW3⟩ : ∃ x, W2.alloc (.cells #[.int .u8 f.k, .int .u8 f.fr, .int .u8 f.tt] 5) = x := ⟨_, rfl⟩
  obtain ⟨g0, gg0⟩ : ∃ x, w.heap.size = x := ⟨_, rfl⟩
  obtain ⟨B0, hB0⟩ : ∃ x, W2.heap.size = x := ⟨_, rfl⟩
  rw [gW3] at HP0 ⊢
  rw [gg0] at HO2 ⊢
  rw [hB0] at HP0 ⊢
  have HB0 := Lib.hid hB0
  have HG1 : RowKit.Hid (g0 < B0) := Lib.hid (by have := HG0.out; omega)
  have EX3 : RowKit.Hid (Ext W2 W3) := Lib.hid HP0.out.below
  have R9 := Lib.hid (HP0.out.up ((Below.refl _ _).drew))
  have EX9 : RowKit.Hid (Ext W2 W3.drew) := Lib.hid (EX3.out.trans ((Below.refl _ _).drew))
  clear gW3 gg0 hB0 HP0
  have lC3 : ∀ w', Kept (From_ B0) W3.drew w' → w'.cell? ⟨g0, 3, none⟩ = some (.int .i64 f.ep) := fun w' h => h.from_cell HG1.out (EX9.out.cell (HO2.out.cell (i := 3) rfl))
  have lC4 : ∀ w', Kept (From_ B0) W3.drew w' → w'.cell? ⟨g0, 4, none⟩ = some (.int .i64 f.sq) := fun w' h => h.from_cell HG1.out (EX9.out.cell (HO2.out.cell (i := 4) rfl))
  have lC5 : ∀ w', Kept (From_ B0) W3.drew w' → w'.cell? ⟨g0, 5, none⟩ = some (.int .i64 f.ac) := fun w' h => h.from_cell HG1.out (EX9.out.cell (HO2.out.cell (i := 5) rfl))
  refine wp_region_reg (From_ B0) (by kernel_rfl) ?_
  apply wpR_next 0 (some 22)
  · simp only [List.getElem?_toArray, List.getElem?_cons_succ, List.getElem?_cons_zero]; exact rfl
  · rfl
  · kernel_rfl
  · kernel_rfl
  · kernel_rfl
  · first | exact fun _ _ _ _ h => Exit.noConfusion h.1 | exact fun _ _ _ _ h => h
  apply Exists.intro
  apply And.intro
  · apply yr_run; rfl; intro w' hw'; go_simp; (try with_reducible rfl)
  simp only [Act.put, List.setIfInBounds_toArray, List.set_cons_zero, List.set_cons_succ]
  apply wpR_next 1 (some 23)
  · simp only [List.getElem?_toArray, List.getElem?_cons_succ, List.getElem?_cons_zero]; exact rfl
  · rfl
  · kernel_rfl
  · kernel_rfl
  · kernel_rfl
  · first | exact fun _ _ _ _ h => Exit.noConfusion h.1 | exact fun _ _ _ _ h => h
  apply Exists.intro
  apply And.intro
  · apply yr_run; rfl; intro w' hw'; go_simp; (try with_reducible rfl)
  simp only [Act.put, List.setIfInBounds_toArray, List.set_cons_zero, List.set_cons_succ]
  apply wpR_next 2 (some 24)
  · simp only [List.getElem?_toArray, List.getElem?_cons_succ, List.getElem?_cons_zero]; exact rfl
  · rfl
  · kernel_rfl
  · kernel_rfl
  · kernel_rfl
  · first | exact fun _ _ _ _ h => Exit.noConfusion h.1 | exact fun _ _ _ _ h => h
  apply Exists.intro
  apply And.intro
  · apply yr_run; rfl; intro w' hw'; go_simp; (try with_reducible rfl)
  simp only [Act.put, List.setIfInBounds_toArray, List.set_cons_zero, List.set_cons_succ]
  apply wpR_next 4 (some 26)
  · simp only [List.getElem?_toArray, List.getElem?_cons_succ, List.getElem?_cons_zero]; exact rfl
  · rfl
  · kernel_rfl
  · kernel_rfl
  · kernel_rfl
  · first | exact fun _ _ _ _ h => Exit.noConfusion h.1 | exact fun _ _ _ _ h => h
  apply Exists.intro
  apply And.intro
  · apply yr_run; rfl; intro w' hw'; go_simp; (try with_reducible rfl)
  simp only [Act.put, List.setIfInBounds_toArray, List.set_cons_zero, List.set_cons_succ]
  apply wpR_next 5 (some 27)
  · simp only [List.getElem?_toArray, List.getElem?_cons_succ, List.getElem?_cons_zero]; exact rfl
  · rfl
  · kernel_rfl
  · kernel_rfl
  · kernel_rfl
  · first | exact fun _ _ _ _ h => Exit.noConfusion h.1 | exact fun _ _ _ _ h => h
  apply Exists.intro
  apply And.intro
  · apply yr_run; rfl; intro w' hw'; go_simp; (try with_reducible rfl)
  simp only [Act.put, List.setIfInBounds_toArray, List.set_cons_zero, List.set_cons_succ]
  apply wpR_next 7 (some 29)
  · simp only [List.getElem?_toArray, List.getElem?_cons_succ, List.getElem?_cons_zero]; exact rfl
  · rfl
  · kernel_rfl
  · kernel_rfl
  · kernel_rfl
  · first | exact fun _ _ _ _ h => Exit.noConfusion h.1 | exact fun _ _ _ _ h => h
  apply Exists.intro
  apply And.intro
  · apply yr_run; rfl; intro w' hw'; go_simp; (try with_reducible rfl)
  simp only [Act.put, List.setIfInBounds_toArray, List.set_cons_zero, List.set_cons_succ]
  apply wpR_next 8 (some 30)
  · simp only [List.getElem?_toArray, List.getElem?_cons_succ, List.getElem?_cons_zero]; exact rfl
  · rfl
  · kernel_rfl
  · kernel_rfl
  · kernel_rfl
  · first | exact fun _ _ _ _ h => Exit.noConfusion h.1 | exact fun _ _ _ _ h => h
  apply Exists.intro
  apply And.intro
  · apply yr_run; rfl; intro w' hw'; go_simp; (try with_reducible rfl)
  simp only [Act.put, List.setIfInBounds_toArray, List.set_cons_zero, List.set_cons_succ]
  refine wpR_one 3 (by kernel_rfl) ?_
  apply at_call 3 (some 25)
  · simp only [List.getElem?_toArray, List.getElem?_cons_succ, List.getElem?_cons_zero]; exact rfl
  · rfl
  · rfl
  · intro w'; go_simp; first | done | exact ⟨rfl, rfl⟩ | with_reducible rfl
  intro w' hw'
  have RR_0_2 := Lib.hid (Ow.up R9.out (hw'))
  have E_0_2 := Lib.hid (Ext.trans EX9.out (hw'))
  refine (four_any _ _ _ _ [f.k.toNat, f.fr.toNat, f.tt.toNat] f.ep _ RR_0_2.out (by omega) be1 be2).mono ?_
  rintro e w'' ⟨vv, rfl, ho, hb⟩
  refine ⟨_, rfl, Kept.of_from hb, ?_⟩
  have E_0_1 : RowKit.Hid (Ext W2 w'') := Lib.hid ho.below
  have hkk : Kept (From_ B0) W3.drew w'' := (Kept.of_ext hw').trans (Kept.of_from hb)
  obtain ⟨AA0_1, cc0_1, rfl, -⟩ := ho.rds
  have RR_0_1 := Lib.hid ho
  obtain ⟨z0_1, gz0_1⟩ : ∃ x, w'' = x := ⟨_, rfl⟩
  rw [gz0_1] at RR_0_1 E_0_1 hkk ⊢
  have ldt0_3 := fun w'' (h : Kept (From_ B0) z0_1 w'') => lC3 w'' (hkk.trans h)
  have ldt0_4 := fun w'' (h : Kept (From_ B0) z0_1 w'') => lC4 w'' (hkk.trans h)
  have ldt0_5 := fun w'' (h : Kept (From_ B0) z0_1 w'') => lC5 w'' (hkk.trans h)
  clear lC3 lC4 lC5
  clear hkk ho hb gz0_1 hw'
  try simp only [Act.put, List.setIfInBounds_toArray, List.set_cons_zero, List.set_cons_succ]
  refine wpR_one 6 (by kernel_rfl) ?_
  apply at_call 6 (some 28)
  · simp only [List.getElem?_toArray, List.getElem?_cons_succ, List.getElem?_cons_zero]; exact rfl
  · rfl
  · rfl
  · intro w'; go_simp; first | done | exact ⟨rfl, rfl⟩ | with_reducible rfl
  intro w' hw'
  have RR_0_7 := Lib.hid (Ow.up RR_0_1.out (hw'))
  have E_0_7 := Lib.hid (Ext.trans E_0_1.out (hw'))
  refine (four_any _ _ _ _ ([f.k.toNat, f.fr.toNat, f.tt.toNat] ++ be4 f.ep) f.sq _ RR_0_7.out (by omega) bs1 bs2).mono ?_
  rintro e w'' ⟨vv, rfl, ho, hb⟩
  refine ⟨_, rfl, Kept.of_from hb, ?_⟩
  have E_0_6 : RowKit.Hid (Ext W2 w'') := Lib.hid ho.below
  have hkk : Kept (From_ B0) z0_1 w'' := (Kept.of_ext hw').trans (Kept.of_from hb)
  obtain ⟨AA0_6, cc0_6, rfl, -⟩ := ho.rds
  have RR_0_6 := Lib.hid ho
  obtain ⟨z0_6, gz0_6⟩ : ∃ x, w'' = x := ⟨_, rfl⟩
  rw [gz0_6] at RR_0_6 E_0_6 hkk ⊢
  have ldt0_8 := fun w'' (h : Kept (From_ B0) z0_6 w'') => ldt0_3 w'' (hkk.trans h)
  have ldt0_9 := fun w'' (h : Kept (From_ B0) z0_6 w'') => ldt0_4 w'' (hkk.trans h)
  have ldt0_10 := fun w'' (h : Kept (From_ B0) z0_6 w'') => ldt0_5 w'' (hkk.trans h)
  clear ldt0_3 ldt0_4 ldt0_5
  clear hkk ho hb gz0_6 hw'
  try simp only [Act.put, List.setIfInBounds_toArray, List.set_cons_zero, List.set_cons_succ]
  refine wpR_one 9 (by kernel_rfl) ?_
  apply at_call 9 (some 31)
  · simp only [List.getElem?_toArray, List.getElem?_cons_succ, List.getElem?_cons_zero]; exact rfl
  · rfl
  · rfl
  · intro w'; go_simp; first | done | exact ⟨rfl, rfl⟩ | with_reducible rfl
  intro w' hw'
  have RR_0_12 := Lib.hid (Ow.up RR_0_6.out (hw'))
  have E_0_12 := Lib.hid (Ext.trans E_0_6.out (hw'))
  refine (four_any _ _ _ _ ([f.k.toNat, f.fr.toNat, f.tt.toNat] ++ be4 f.ep ++ be4 f.sq) f.ac _ RR_0_12.out (by omega) ba1 ba2).mono ?_
  rintro e w'' ⟨vv, rfl, ho, hb⟩
  refine ⟨_, rfl, Kept.of_from hb, ?_⟩
  have E_0_11 : RowKit.Hid (Ext W2 w'') := Lib.hid ho.below
  have hkk : Kept (From_ B0) z0_6 w'' := (Kept.of_ext hw').trans (Kept.of_from hb)
  obtain ⟨AA0_11, cc0_11, rfl, -⟩ := ho.rds
  have RR_0_11 := Lib.hid ho
  obtain ⟨z0_11, gz0_11⟩ : ∃ x, w'' = x := ⟨_, rfl⟩
  rw [gz0_11] at RR_0_11 E_0_11 hkk ⊢
  have ldt0_13 := fun w'' (h : Kept (From_ B0) z0_11 w'') => ldt0_8 w'' (hkk.trans h)
  have ldt0_14 := fun w'' (h : Kept (From_ B0) z0_11 w'') => ldt0_9 w'' (hkk.trans h)
  have ldt0_15 := fun w'' (h : Kept (From_ B0) z0_11 w'') => ldt0_10 w'' (hkk.trans h)
  clear ldt0_8 ldt0_9 ldt0_10
  clear hkk ho hb gz0_11 hw'
  try simp only [Act.put, List.setIfInBounds_toArray, List.set_cons_zero, List.set_cons_succ]
  apply wpR_next 10 (some 5)
  · simp only [List.getElem?_toArray, List.getElem?_cons_succ, List.getElem?_cons_zero]; exact rfl
  · rfl
  · kernel_rfl
  · kernel_rfl
  · kernel_rfl
  · first | exact fun _ _ _ _ h => Exit.noConfusion h.1 | exact fun _ _ _ _ h => h
  apply Exists.intro
  apply And.intro
  · apply yr_run; rfl; intro w' hw'; go_simp; (try with_reducible rfl)
  simp only [Act.put, List.setIfInBounds_toArray, List.set_cons_zero, List.set_cons_succ]
  refine wpR_done (by kernel_rfl) ?_ _
  intro wE hwE
  skip
  have HPo : RowKit.Hid (Ow W2 B0 5 1 _ 15 (rowsV f8 (headF f)) wE) := Lib.hid (Ow.up RR_0_11.out hwE)
  have EXE : RowKit.Hid (Ext W2 wE) := Lib.hid HPo.out.below
  clear hwE
  have d6 := EXE.out.cell (HO2.out.cell (i := 6) (v := .slice A L.length c) rfl)
  have HS := Lib.hid (fun A1 c1 W hr => rsum_any A1 (15 + L.length) c1 (headF f ++ L) W hr (by intro b hb; rcases List.mem_append.1 hb with hb | hb; exact HLt.out b hb; exact HBy.out b hb) (by unfold maxLen; omega))
  have hs : crc (headF f ++ L) < 4294967296 := crc_lt (by intro b hb; rcases List.mem_append.1 hb with hb | hb; exact HLt.out b hb; exact HBy.out b hb)
  have hlen : (putF f L).length = 15 + L.length + 4 := by simp [putF, headF_len, le4]; omega
  have HPF : RowKit.Hid (putF f L = headF f ++ L ++ le4 (crc (headF f ++ L))) := Lib.hid rfl
  obtain ⟨x, gx⟩ : ∃ x, crc (headF f ++ L) = x := ⟨_, rfl⟩
  rw [gx] at HS hs HPF
  have HLen := Lib.hid hlen
  clear gx hlen
  have v1 : IntKind.u8.wrap (x : Int) = (x : Int) % 256 := by rw [IntKind.wrap_u8]
  have v2 : IntKind.u8.wrap ((x : Int) / 256) = (x : Int) / 256 % 256 := by rw [IntKind.wrap_u8]
  have v3 : IntKind.u8.wrap ((x : Int) / 65536) = (x : Int) / 65536 % 256 := by rw [IntKind.wrap_u8]
  have v4 : IntKind.u8.wrap ((x : Int) / 16777216) = (x : Int) / 16777216 % 256 := by rw [IntKind.wrap_u8]
  go_wp2_with (first
    | (at_builtin
       refine wpList_push2 rfl (.tmp 32) (.tmp 34) _ rfl _ 5 i0 _ 1 1 Try.underlying32 hi hz0 hz1 hz2 rfl (by decide) _ _ _ rfl (by exact Ow.up HPo.out (Below.refl _ _)) _ A L.length c (rowsV f8 L) rfl (HR2.out.up HPo.out.below HPo.out.below.size) (f8_all L) (by unfold maxLen; omega) (by omega) ?_
       intro v1 W5 how1 hb1 hgr1
       rw [← rowsV_app] at how1
       obtain ⟨A5, c5, rfl, hr5⟩ := how1.rds
       have HP5 := Lib.hid how1
       have HR5 := Lib.hid hr5
       clear how1 hb1 hgr1 hr5 d6)
    | (go_at_call 65
       refine (HS.out _ _ _ HR5.out).mono ?_
       rintro e W6 ⟨rfl, rfl⟩)
    | (at_builtin
       refine wpList_push2 rfl (.tmp 38) (.tmp 50) _ rfl _ 5 i0 _ 1 1 Try.underlying32 hi hz0 hz1 hz2 rfl (by decide) _ _ _ rfl (by exact Ow.up HP5.out (below1 _ _)) _ (some ⟨W5.heap.size, 0, none⟩) 4 4 ([.int .u8 ((x : Int) % 256), .int .u8 ((x : Int) / 256 % 256), .int .u8 ((x : Int) / 65536 % 256), .int .u8 ((x : Int) / 16777216 % 256)]) rfl (by exact RdS.new_ rfl (Nat.lt_succ_self _) rfl rfl) (by simp [Value.oneCell']) (by unfold maxLen; omega) (by omega) ?_
       intro v7 W7 how7 hb7 hgr7
       obtain ⟨A7, c7, rfl, hr7⟩ := how7.rds
       have HP7 := Lib.hid how7
       have HR7 := Lib.hid hr7
       clear how7 hb7 hgr7 hr7))
  have hrow : rowsV f8 (headF f ++ L) ++ [.int .u8 ((x : Int) % 256), .int .u8 ((x : Int) / 256 % 256), .int .u8 ((x : Int) / 65536 % 256), .int .u8 ((x : Int) / 16777216 % 256)] = rowsV f8 (putF f L) := by
    rw [HPF.out, rowsV_app f8 (headF f ++ L)]
    simp [le4, rowsV, f8]
  have hx7 := HP7.out.own
  rw [hrow] at hx7
  refine bodyPost_ret (v := .tuple #[.slice A7 (15 + L.length + 4) c7, .int .i64 0]) (by simp [results, Try.results51, go_sem]) rfl ?_
  have h2 := HG0.out
  have h3 := HB0.out
  exact ⟨A7, c7, by rw [HLen.out], by rw [HLen.out]; exact own_lo hx7 (by omega), HB2.out.trans (HP7.out.below.mono HB2.out.size)⟩
theorem rput_yes (f : FrT) (A : Option Addr) (n c : Nat) (L : List Nat) (w : World) (h : mayF f n = 0) (hr : RdS w w.heap.size 1 A n c (rowsV f8 L)) (hb : ∀ b ∈ L, b < 256) :
    Calls Try.prog 51 #[.agg (frCells f A n c).toArray] w (GivesP w f L) := by
  refine (rput_own f A n c L w h hr hb).mono ?_
  rintro e w' ⟨A', c', h1, h2, h3⟩
  obtain ⟨A2, c2, e2, h4⟩ := RdS.of_own h2
  injection e2 with a1 a2 a3
  subst a1 a3
  exact ⟨A', c', h1, h4, fun a ha => by subst ha; exact (h2.lt a.block rfl).1, h3⟩
end Go.Proofs.Ytibbibpfnpjjdaa

/- The laws' few of layer 15; a slice's text. -/
namespace Go.Proofs.Ytibbibpfnpjjdaa
open Go.RowKit
set_option linter.unusedSimpArgs false
set_option linter.unusedVariables false

theorem sum_b (A : Option Addr) (n c : Nat) (L : List Nat) (w : World) (h : RdS w w.heap.size 1 A n c (rowsV f8 L)) (hb : ∀ b ∈ L, b < 256) (hn : n ≤ maxLen) :
    Calls Try.prog 60 #[.slice A n c] w fun e w' => e = .returned (.int .u32 ((crc L : Nat) : Int)) ∧ Below w.heap.size w w' := (sum_any A n c L w h hb hn).mono fun e w' ⟨h1, h2⟩ => ⟨h1, h2 ▸ Below.refl _ _⟩
theorem rsum_b (A : Option Addr) (n c : Nat) (L : List Nat) (w : World) (h : RdS w w.heap.size 1 A n c (rowsV f8 L)) (hb : ∀ b ∈ L, b < 256) (hn : n ≤ maxLen) :
    Calls Try.prog 65 #[.slice A n c] w fun e w' => e = .returned (.int .u32 ((crc L : Nat) : Int)) ∧ Below w.heap.size w w' := (rsum_any A n c L w h hb hn).mono fun e w' ⟨h1, h2⟩ => ⟨h1, h2 ▸ Below.refl _ _⟩
end Go.Proofs.Ytibbibpfnpjjdaa

/- The law FramePuts. -/
namespace Go.Proofs.Ytibbibpfnpjjdaa
open Go.RowKit
set_option linter.unusedSimpArgs false
set_option linter.unusedVariables false

/-- What a frame's Put gives. -/
def putFr (f : FrT) (L : List Nat) : List Nat := if mayF f L.length = 0 then putF f L else []
def PutsTo (k : FuncId) : Prop := ∀ (f : FrT) (A : Option Addr) (c : Nat) (L : List Nat) (w : World) (hr : RdS w w.heap.size 1 A L.length c (rowsV f8 L)) (hb : ∀ b ∈ L, b < 256),
  Calls Try.prog k #[.agg (frCells f A L.length c).toArray] w fun e w' => ∃ A' n' c', e = .returned (.tuple #[.slice A' n' c', .int .i64 (mayF f L.length)]) ∧ RdS w' w'.heap.size 1 A' n' c' (rowsV f8 (putFr f L)) ∧ Below w.heap.size w w'
theorem puts_to : PutsTo 27 := fun f A c L w hr hb => by
  by_cases h : mayF f L.length = 0
  · refine (put_yes f A L.length c L w h hr hb).mono ?_
    rintro e w' ⟨A', c', rfl, h2, _, h4⟩
    rw [h]
    exact ⟨A', _, c', rfl, by unfold putFr; rw [if_pos h]; exact h2, h4⟩
  · refine (put_not f A L.length c w h).mono ?_
    rintro e w' ⟨rfl, h4⟩
    exact ⟨none, 0, 0, rfl, by unfold putFr; rw [if_neg h]; exact rds_nil _ _ _, h4⟩
theorem rputs_to : PutsTo 51 := fun f A c L w hr hb => by
  by_cases h : mayF f L.length = 0
  · refine (rput_yes f A L.length c L w h hr hb).mono ?_
    rintro e w' ⟨A', c', rfl, h2, _, h4⟩
    rw [h]
    exact ⟨A', _, c', rfl, by unfold putFr; rw [if_pos h]; exact h2, h4⟩
  · refine (rput_not f A L.length c w h).mono ?_
    rintro e w' ⟨rfl, h4⟩
    exact ⟨none, 0, 0, rfl, by unfold putFr; rw [if_neg h]; exact rds_nil _ _ _, h4⟩

end Go.Proofs.Ytibbibpfnpjjdaa
